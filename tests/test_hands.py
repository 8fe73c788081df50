"""Points [26], [27] and what [3] says of them: a hand, its deeds, and what is told of it."""

import copy
import random
import unittest

from hourcoin.counted import counted
from hourcoin.errors import NoFeast, NoSingle, NoStamp, Quarrel
from hourcoin.hands import Hand
from hourcoin.lots import both
from hourcoin.plans import is_plan, with_single, with_standing, without_single
from hourcoin.roundings import rounding_of
from hourcoin.stamps import stretches
from tests.test_books import ruled
from tests.test_cases import rule, some_book
from tests.test_paying import rated, slow_lines
from tests.test_sorting import BUSY_RULES, slow_sorted_out

LAST_DAY = 694443
EMPTY = ((), ())
PLAIN = ruled()
LATE = ruled(rule("night", 1, "late", ("clock", 1320, 360)))
DOWN, UP, EXACT = ("down", 15), ("up", 15), ("down", 1)
GRACED = ("graced", 5, ("up", 15))
# On day 0 from 08:00 to 12:00.
PLAN = ((), ((0, ((480, 240),)),))


def hand_of(book=PLAIN, plan=EMPTY, most=60, begins=EXACT, ends=EXACT):
    """A hand."""
    return Hand(plan, most, begins, ends, book)


def told_stamps(hand, *minutes):
    """The hand, which was told that it came in at the first minute, out at the next, and so on."""
    for at, minute in enumerate(minutes):
        hand.tell(("out" if at % 2 else "in", minute))
    return hand


def asked(question, *arguments):
    """What is told, or of a quarrel the names and the minute."""
    try:
        return question(*arguments)
    except Quarrel as quarrel:
        return "quarrel", quarrel.names, quarrel.minute


def all_of(hand, weeks):
    """All that is told of a hand, of its weeks these."""
    return [hand.stamps(), hand.worked(), hand.feasts(), hand.lot(), asked(hand.sorts),
            [(asked(hand.week_lines, week), asked(hand.week_due, week)) for week in weeks]]


class Model:
    """What stands of a hand, as plain sets and dicts, and by what it is told of, week by week."""

    def __init__(self, plan, most, begins, ends, book):
        self.most, self.begins, self.ends = most, begins, ends
        self.stamps, self.feasts, self.plan, self.books = set(), set(), plan, {0: book}

    def lot(self):
        """The counted minutes."""
        return counted(self.worked(), rounding_of(self.begins, self.plan), rounding_of(self.ends, self.plan))

    def worked(self):
        """The stretches."""
        return stretches(list(self.stamps), self.plan, self.most)

    def of_week(self, week):
        """The counted minutes of a week, and its book."""
        book = self.books[max(begin for begin in self.books if begin <= week)]
        return both(self.lot(), [(10080 * week, 10080 * (week + 1))]), book

    def sorts(self, weeks):
        """All sorted, minute by minute; or a quarrel."""
        rows = []
        for week in weeks:
            lot, book = self.of_week(week)
            told = slow_sorted_out(lot, self.feasts, book)
            if isinstance(told, tuple):
                return ("quarrel", *told)
            for row in told:
                if rows and rows[-1][1:] == (row[0], *row[2:]):
                    row = (rows.pop()[0], *row[1:])
                rows.append(row)
        return rows

    def week_lines(self, week):
        """The lines of a week, minute by minute; or a quarrel."""
        lot, book = self.of_week(week)
        told = slow_lines(lot, self.feasts, book)
        return ("quarrel", *told) if isinstance(told, tuple) else told

    def all_told(self, weeks):
        """What all_of tells."""
        rows = [self.week_lines(week) for week in weeks]
        worths = [told if isinstance(told, tuple) else sum(row[2] * row[3] for row in told) for told in rows]
        stamps = sorted(self.stamps, key=lambda stamp: (stamp[1], stamp[0] == "in"))
        return [stamps, self.worked(), sorted(self.feasts), self.lot(), self.sorts(weeks), list(zip(rows, worths))]

    def do(self, word, *told):
        """Do a deed: whether it is one that changes the hand; a class of errors where it is refused."""
        if word in ("tell", "feast"):
            table = self.stamps if word == "tell" else self.feasts
            new = told[0] not in table
            table.add(told[0])
            return new
        if word in ("strike", "ordinary"):
            table, refusal = (self.stamps, NoStamp) if word == "strike" else (self.feasts, NoFeast)
            if told[0] not in table:
                return refusal
            table.remove(told[0])
        elif word == "usual":
            if told[0] not in dict(self.plan[1]):
                return NoSingle
            self.plan = without_single(self.plan, *told)
        elif word == "book_from":
            self.books[told[0]] = told[1]
        else:
            self.plan = {"standing": with_standing, "single": with_single}[word](self.plan, *told)
        return None


def some_deed(chance, most):
    """A deed on one of a few days, of a few kinds."""
    day = chance.randrange(most)
    word = chance.choice(["tell"] * 8 + ["strike", "strike", "feast", "ordinary", "standing", "single", "usual",
                                         "book_from"])
    if word in ("tell", "strike"):
        return word, (chance.choice(["in", "out"]), 1440 * day + 240 * chance.randrange(6))
    if word == "standing":
        shifts = {(chance.randrange(7), 120 * chance.randrange(12), 240) for _ in range(chance.randint(0, 9))}
        return word, day, tuple(sorted(shifts))
    if word == "single":
        shifts = {(120 * chance.randrange(12), 180) for _ in range(chance.randint(0, 3))}
        return word, day, tuple(sorted(shifts))
    if word == "book_from":
        return word, day // 7, some_book(chance, 300, 900, 1440)
    return word, day


def do(hand, deed):
    """What a hand tells to a deed, or the class of the error by which it is refused."""
    word, *told = deed
    try:
        return getattr(hand, word)(*told)
    except (NoStamp, NoFeast, NoSingle) as refusal:
        return refusal.__class__


class Stamps(unittest.TestCase):

    def test_a_new_hand(self):
        hand = hand_of()
        self.assertEqual(all_of(hand, [0, 99206]), [[], [], [], [], [], [([], 0), ([], 0)]])
        self.assertEqual((hand.payments(), hand.left()), ([], 0))
        self.assertIs(hand.undo(), False)

    def test_in_any_order_and_however_often(self):
        stamps = [("in", 480), ("out", 720), ("in", 720), ("in", 780), ("out", 1020), ("out", 2000)]
        wanted = None
        chance = random.Random(60)
        for _ in range(20):
            hand = hand_of(plan=PLAN)
            for stamp in chance.sample(stamps, len(stamps)):
                self.assertIs(hand.tell(stamp), True)
                self.assertIs(hand.tell(stamp), False)
            for stamp in chance.choices(stamps, k=5):
                self.assertIs(hand.tell(stamp), False)
            wanted = wanted or all_of(hand, [0, 1])
            self.assertEqual(all_of(hand, [0, 1]), wanted)
        self.assertEqual(wanted[0], [("in", 480), ("out", 720), ("in", 720), ("in", 780), ("out", 1020), ("out", 2000)])
        self.assertEqual(wanted[1], [(480, 720, "told"), (720, 780, "end"), (780, 1020, "told"), (1940, 2000, "begin")])

    def test_a_guessed_bound_gives_way_where_it_is_told(self):
        hand = told_stamps(hand_of(plan=PLAN), 500)
        self.assertEqual(hand.worked(), [(500, 720, "end")])
        hand.tell(("out", 900))
        self.assertEqual(hand.worked(), [(500, 900, "told")])
        hand.strike(("in", 500))
        self.assertEqual(hand.worked(), [(840, 900, "begin")])
        hand.tell(("in", 890))
        self.assertEqual(hand.worked(), [(890, 900, "told")])

    def test_told_twice_struck_and_struck_again(self):
        hand = hand_of()
        self.assertIs(hand.tell(("in", 5)), True)
        self.assertIs(hand.tell(("in", 5)), False)
        self.assertIs(hand.tell(("out", 5)), True)
        self.assertIsNone(hand.strike(("in", 5)))
        self.assertEqual(hand.stamps(), [("out", 5)])
        for stamp in (("in", 5), ("in", 6), ("out", 6)):
            with self.assertRaises(NoStamp):
                hand.strike(stamp)
        self.assertEqual(hand.stamps(), [("out", 5)])
        self.assertIs(hand.tell(("in", 5)), True)
        self.assertEqual(hand.stamps(), [("out", 5), ("in", 5)])


class Days(unittest.TestCase):

    def test_a_feast_made_twice_and_unmade(self):
        hand = hand_of()
        for day in (9, 0, LAST_DAY, 10):
            self.assertIs(hand.feast(day), True)
            self.assertIs(hand.feast(day), False)
        self.assertEqual(hand.feasts(), [0, 9, 10, LAST_DAY])
        self.assertIsNone(hand.ordinary(9))
        for day in (9, 1, 5):
            with self.assertRaises(NoFeast):
                hand.ordinary(day)
        self.assertEqual(hand.feasts(), [0, 10, LAST_DAY])
        self.assertIs(hand.feast(9), True)

    def test_shifts(self):
        hand = told_stamps(hand_of(), 500)
        self.assertEqual(hand.worked(), [(500, 560, "end")])
        self.assertIsNone(hand.standing(0, ((0, 480, 100), (1, 480, 50))))
        self.assertEqual(hand.worked(), [(500, 580, "end")])
        self.assertIsNone(hand.single(0, ((490, 15), (495, 300))))
        self.assertEqual(hand.worked(), [(500, 505, "end")])
        self.assertIsNone(hand.single(0, ()))
        self.assertEqual(hand.worked(), [(500, 560, "end")])
        self.assertIsNone(hand.usual(0))
        self.assertEqual(hand.worked(), [(500, 580, "end")])
        with self.assertRaises(NoSingle):
            hand.usual(0)
        hand.standing(0, ())
        self.assertEqual(hand.worked(), [(500, 560, "end")])
        with self.assertRaises(NoSingle):
            hand.usual(1)

    def test_a_standing_in_the_place_of_one_of_this_day_later_ones_stay(self):
        hand = told_stamps(hand_of(), 500, 1940 + 8640)
        hand.strike(("out", 10580))
        hand.tell(("in", 10580))
        hand.standing(7, ((0, 480, 300),))
        hand.standing(0, ((0, 480, 100),))
        self.assertEqual(hand.worked(), [(500, 580, "end"), (10580, 10860, "end")])
        hand.standing(0, ((0, 480, 200),))
        self.assertEqual(hand.worked(), [(500, 680, "end"), (10580, 10860, "end")])
        hand.standing(3, ())
        self.assertEqual(hand.worked(), [(500, 680, "end"), (10580, 10860, "end")])
        hand.standing(7, ())
        self.assertEqual(hand.worked(), [(500, 680, "end"), (10580, 10640, "end")])

    def test_shifts_grace_what_is_counted(self):
        hand = told_stamps(hand_of(begins=GRACED, ends=DOWN), 484, 733)
        self.assertEqual(hand.lot(), [(495, 720)])
        hand.single(0, ((480, 240),))
        self.assertEqual(hand.lot(), [(480, 720)])
        self.assertEqual(hand.worked(), [(484, 733, "told")])
        hand.undo()
        self.assertEqual(hand.lot(), [(495, 720)])

    def test_roundings_for_begins_and_for_ends(self):
        for begins, ends, wanted in ((DOWN, UP, [(480, 735)]), (UP, DOWN, [(495, 720)]), (EXACT, DOWN, [(484, 720)]),
                                     (("near", 10), EXACT, [(480, 733)])):
            self.assertEqual(told_stamps(hand_of(begins=begins, ends=ends), 484, 733).lot(), wanted)


class Books(unittest.TestCase):

    def test_each_week_by_its_own_book(self):
        hand = told_stamps(hand_of(), 10000, 10160, 20100, 20200)
        self.assertEqual(hand.sorts(), [(10000, 10160, "base", None), (20100, 20200, "base", None)])
        self.assertIsNone(hand.book_from(1, LATE))
        # The stretch over the week's end is parted by the books, the other one, by one book, is not.
        self.assertEqual(hand.sorts(), [(10000, 10080, "base", None), (10080, 10160, "late", "night"),
                                        (20100, 20200, "late", "night")])
        hand.book_from(2, ruled(rule("night", 5, "late")))
        self.assertEqual(hand.sorts()[2:], [(20100, 20200, "late", "night")])
        hand.book_from(2, ruled(rule("other", 5, "late")))
        self.assertEqual(hand.sorts()[2:], [(20100, 20160, "late", "night"), (20160, 20200, "late", "other")])
        hand.book_from(0, ruled(rule("night", 9, "late")))
        self.assertEqual(hand.sorts()[0], (10000, 10160, "late", "night"))

    def test_in_the_place_of_one_from_that_very_week_later_ones_stay(self):
        hand = told_stamps(hand_of(), 5, 6, 10085, 10086, 20165, 20166, 30245, 30246)

        def rates():
            return [row[2] for week in range(4) for row in hand.week_lines(week)]

        for week, rate, wanted in ((2, 2, [600, 600, 2, 2]), (1, 1, [600, 1, 2, 2]), (2, 3, [600, 1, 3, 3]),
                                   (0, 0, [0, 1, 3, 3]), (3, 5, [0, 1, 3, 5]), (1, 7, [0, 7, 3, 5]),
                                   (99206, 9, [0, 7, 3, 5])):
            hand.book_from(week, rated(PLAIN, base=rate, late=9, rest=9))
            self.assertEqual(rates(), wanted)
        for _ in range(6):
            hand.undo()
        self.assertEqual(rates(), [600, 600, 2, 2])

    def test_counts_begin_anew_with_a_week_and_its_book(self):
        by_week = ruled(rule("long", 1, "late", ("week", 50)))
        hand = told_stamps(hand_of(by_week), 10000, 10160)
        hand.book_from(1, ruled(rule("long", 1, "late", ("week", 30))))
        self.assertEqual(hand.sorts(), [
            (10000, 10050, "base", None), (10050, 10080, "late", "long"), (10080, 10110, "base", None),
            (10110, 10160, "late", "long")])
        self.assertEqual(hand.week_lines(0), [(6, "base", 600, 50), (6, "late", 900, 30)])
        self.assertEqual(hand.week_lines(1), [(7, "base", 600, 30), (7, "late", 900, 50)])
        self.assertEqual((hand.week_due(0), hand.week_due(1), hand.week_due(2)), (57000, 63000, 0))

    def test_feasts(self):
        hand = told_stamps(hand_of(ruled(rule("high", 1, "late", ("feast",)))), 1400, 1500)
        hand.feast(1)
        self.assertEqual(hand.sorts(), [(1400, 1440, "base", None), (1440, 1500, "late", "high")])
        hand.feast(0)
        self.assertEqual(hand.week_lines(0), [(0, "late", 900, 40), (1, "late", 900, 60)])

    def test_a_quarrel_of_what_is_asked(self):
        quarrels = ruled(rule("a", 1, "late"), rule("b", 1, "rest", ("clock", 600, 700)))
        hand = told_stamps(hand_of(), 500, 650, 10580, 10730, 20660, 20810, 30740, 30750)
        hand.book_from(1, quarrels)
        for week, minute in ((1, 10680), (2, 20760)):
            for question in (hand.week_lines, hand.week_due):
                self.assertEqual(asked(question, week), ("quarrel", ("a", "b"), minute))
        self.assertEqual(asked(hand.sorts), ("quarrel", ("a", "b"), 10680))
        self.assertEqual(hand.week_lines(0), [(0, "base", 600, 150)])
        self.assertEqual(hand.week_lines(3), [(21, "late", 900, 10)])
        self.assertEqual(hand.lot()[0], (500, 650))
        hand.book_from(1, PLAIN)
        self.assertEqual(len(hand.sorts()), 4)


class Undone(unittest.TestCase):

    def test_each_kind_of_deed(self):
        for deed in (("tell", ("in", 700)), ("strike", ("in", 500)), ("feast", 3), ("ordinary", 0),
                     ("standing", 0, ((0, 400, 300),)), ("standing", 1, ()), ("single", 0, ((400, 300),)),
                     ("single", 9, ()), ("usual", 0), ("book_from", 0, LATE), ("book_from", 1, LATE)):
            hand = told_stamps(hand_of(ruled(rule("high", 1, "rest", ("feast",))), PLAN), 500, 800, 900)
            hand.feast(0)
            ahead = all_of(hand, [0, 1])
            self.assertIsNot(do(hand, deed), False)
            behind = all_of(hand, [0, 1])
            self.assertIs(hand.undo(), True)
            self.assertEqual(all_of(hand, [0, 1]), ahead)
            # Done again it is as it was done.
            do(hand, deed)
            self.assertEqual(all_of(hand, [0, 1]), behind)
            hand.undo()
            for wanted in (True, True, True, True, False, False):
                self.assertIs(hand.undo(), wanted)
            self.assertEqual(all_of(hand, [0, 1]), all_of(hand_of(hand.book_of(0), PLAN), [0, 1]))

    def test_what_stands_already_is_no_deed(self):
        hand = told_stamps(hand_of(), 5)
        hand.feast(3)
        hand.tell(("in", 5))
        hand.feast(3)
        self.assertIs(hand.undo(), True)
        self.assertEqual((hand.feasts(), hand.stamps()), ([], [("in", 5)]))
        self.assertIs(hand.undo(), True)
        self.assertEqual(hand.stamps(), [])
        self.assertIs(hand.undo(), False)

    def test_shifts_and_books_told_again_are_deeds(self):
        hand = told_stamps(hand_of(), 500)
        for deed in (("standing", 0, ((0, 480, 100),)), ("single", 0, ((480, 50),)), ("book_from", 0, LATE),
                     ("book_from", 0, PLAIN)):
            do(hand, deed)
            do(hand, deed)
            self.assertIs(hand.undo(), True)
        self.assertEqual(hand.worked(), [(500, 530, "end")])
        wanted = [True] * 5 + [False]
        self.assertEqual([hand.undo() for _ in wanted], wanted)

    def test_a_deed_that_is_refused_is_not_undone(self):
        hand = told_stamps(hand_of(), 5)
        for deed, refusal in ((("strike", ("out", 5)), NoStamp), (("ordinary", 3), NoFeast), (("usual", 3), NoSingle)):
            self.assertIs(do(hand, deed), refusal)
        self.assertEqual(hand.stamps(), [("in", 5)])
        self.assertIs(hand.undo(), True)
        self.assertEqual(hand.stamps(), [])
        self.assertIs(hand.undo(), False)

    def test_a_deed_behind_one_that_was_undone(self):
        hand = hand_of()
        hand.feast(1)
        hand.feast(2)
        hand.undo()
        hand.feast(3)
        self.assertEqual(hand.feasts(), [1, 3])
        hand.undo()
        self.assertEqual(hand.feasts(), [1])
        hand.undo()
        self.assertEqual((hand.feasts(), hand.undo()), ([], False))

    def test_a_stamp_struck_told_and_undone(self):
        hand = hand_of()
        hand.tell(("in", 5))
        hand.strike(("in", 5))
        hand.tell(("in", 5))
        for wanted in ([], [("in", 5)], []):
            self.assertIs(hand.undo(), True)
            self.assertEqual(hand.stamps(), wanted)
        self.assertIs(hand.undo(), False)


class Drawn(unittest.TestCase):

    def test_deeds_and_undoings_against_those_that_stand(self):
        chance = random.Random(61)
        quarrels = refusals = 0
        for _ in range(60):
            made = (chance.choice([EMPTY, PLAN]), chance.choice([60, 300]),
                    chance.choice([EXACT, UP, GRACED]), chance.choice([EXACT, DOWN]), chance.choice([PLAIN, LATE]))
            hand, deeds = Hand(*made), []
            for _ in range(chance.randint(0, 60)):
                if chance.random() < 0.25:
                    self.assertIs(hand.undo(), bool(deeds))
                    deeds = deeds[:-1]
                    continue
                deed = some_deed(chance, 21)
                model = Model(*made)
                for one in deeds:
                    model.do(*one)
                wanted = model.do(*deed)
                self.assertEqual(do(hand, deed), wanted)
                refusals += isinstance(wanted, type)
                if wanted in (None, True):
                    deeds.append(deed)
            other, model = Hand(*made), Model(*made)
            for deed in deeds:
                do(other, deed)
                model.do(*deed)
            self.assertTrue(is_plan(model.plan))
            told = all_of(hand, range(4))
            self.assertEqual(told, all_of(other, range(4)))
            self.assertEqual(told, model.all_told(range(4)))
            quarrels += isinstance(told[4], tuple)
            while deeds:
                self.assertIs(hand.undo(), True)
                deeds.pop()
            self.assertIs(hand.undo(), False)
            self.assertEqual(all_of(hand, range(4)), all_of(Hand(*made), range(4)))
        self.assertTrue(5 < quarrels < 55, quarrels)
        self.assertTrue(refusals > 50, refusals)

    def test_the_minutes_counted_are_those_of_the_sorts(self):
        chance = random.Random(62)
        for _ in range(100):
            hand = hand_of(LATE, begins=UP, ends=UP)
            for _ in range(30):
                do(hand, some_deed(chance, 9))
            rows = asked(hand.sorts)
            if isinstance(rows, list):
                minutes = sum(behind - first for first, behind, _, _ in rows)
                self.assertEqual(minutes, sum(behind - first for first, behind in hand.lot()))
                self.assertEqual(minutes, sum(row[3] for week in range(3) for row in hand.week_lines(week)))


class NothingChanged(unittest.TestCase):

    def test_lists_are_the_askers_own(self):
        hand = told_stamps(hand_of(LATE, PLAN), 500, 800, 900)
        hand.feast(3)
        hand.pay(1)
        questions = [hand.stamps, hand.worked, hand.feasts, hand.lot, hand.sorts, lambda: hand.week_lines(0),
                     hand.payments]
        wanted = copy.deepcopy([question() for question in questions])
        for question in questions:
            told = question()
            self.assertIs(told.__class__, list)
            self.assertEqual([row.__class__ for row in told], [int if question == hand.feasts else tuple] * len(told))
            told.append("more")
            told[0] = "other"
            told.reverse()
        self.assertEqual([question() for question in questions], wanted)
        kept = [question() for question in questions]
        hand.tell(("in", 5))
        hand.feast(1)
        hand.undo()
        hand.pay(3)
        self.assertEqual(kept, wanted)

    def test_what_is_handed_in_stays(self):
        plan, book, shifts = copy.deepcopy((PLAN, LATE, ((0, 400, 300),)))
        hand = told_stamps(Hand(plan, 60, GRACED, DOWN, book), 500, 900)
        hand.standing(0, shifts)
        hand.single(0, ())
        hand.usual(0)
        hand.book_from(0, PLAIN)
        hand.pay(1)
        hand.undo()
        self.assertEqual((plan, book, shifts), (PLAN, LATE, ((0, 400, 300),)))
        self.assertEqual(PLAIN, ruled())

    def test_two_hands_know_nothing_of_one_another(self):
        one, other = hand_of(), hand_of()
        told_stamps(one, 500, 800)
        one.feast(3)
        one.single(0, ())
        one.book_from(0, LATE)
        one.pay(1)
        self.assertEqual(all_of(other, [0]), [[], [], [], [], [], [([], 0)]])
        self.assertEqual((other.payments(), other.left(), other.undo()), ([], 0, False))
        self.assertEqual(told_stamps(other, 500, 800).sorts(), [(500, 800, "base", None)])

    def test_whole_numbers_and_truths(self):
        hand = told_stamps(hand_of(), 5, 9)
        self.assertIs(hand.week_due(0).__class__, int)
        self.assertEqual(hand.week_due(0), 2400)
        self.assertIs(hand.left().__class__, int)
        self.assertEqual([hand.tell(("in", 50)), hand.tell(("in", 50)), hand.feast(1), hand.feast(1)],
                         [True, False, True, False])


class ToldSoon(unittest.TestCase):

    def test_hundreds_of_stamps(self):
        plan = (((0, tuple((weekday, 480, 480) for weekday in range(7))),), ())
        hand = hand_of(ruled(*BUSY_RULES), plan, begins=GRACED, ends=DOWN)
        for day in range(0, 90, 2):
            for at in range(8):
                told_stamps(hand, 1440 * day + 400 + 100 * at, 1440 * day + 460 + 100 * at)
        self.assertEqual(len(hand.stamps()), 720)
        due = paid = 0
        for week in range(14):
            due += hand.week_due(week)
            paid += hand.pay(week + 1)[0]
            self.assertEqual(divmod(due, 60), (paid, hand.left()))
        while hand.undo():
            pass
        self.assertEqual(hand.lot(), [])

    def test_weeks_far_apart(self):
        hand = hand_of(LATE)
        for at in range(60):
            told_stamps(hand, 1440 * 11770 * at + 5, 1440 * 11770 * at + 500)
            hand.book_from(11770 * at // 7, LATE)
        self.assertEqual(len(hand.worked()), 60)
        for week in range(0, 99207, 1653):
            hand.pay(week)
        self.assertEqual(len(hand.sorts()), 120)
        self.assertEqual(sum(coins for _, coins in hand.payments()) * 60 + hand.left(),
                         sum(hand.week_due(11770 * at // 7) for at in range(60) if 11770 * at // 7 < 99180))


if __name__ == "__main__":
    unittest.main()
