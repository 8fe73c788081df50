"""Points [20], [21] and what [3] says of them: two books held against each other."""

import copy
import random
import unittest

from hourcoin.books import is_book
from hourcoin.cases import is_case
from hourcoin.errors import Unsound
from hourcoin.parting import parted, parting_row, shows_parted
from hourcoin.paying import due
from hourcoin.quarrels import quarrel_of
from hourcoin.sorting import case_at
from tests.test_books import RATES, ruled
from tests.test_cases import rule, slow_sort_in, some_book, some_case
from tests.test_lots import minutes_of
from tests.test_quarrels import bounds_of, pair, walk
from tests.test_sorting import some_lot
from tests.things import odd_things, spoiled

PLAIN = ruled()
# Rules that hold together in no case that can come, so they never quarrel.
NEVER = (rule("a", 5, "late", ("day", 480)), rule("b", 5, "rest", ("clock", 0, 480)))


def rated(book, base, late, rest):
    """The book with other rates."""
    return book[0], (("base", base), ("late", late), ("rest", rest)), book[2]


def late(*conditions):
    """A book in which just where these conditions hold it is late."""
    return ruled(rule("a", 5, "late", *conditions))


def slow_rate(book, case):
    """The rate that a book tells in a case, None where its rules quarrel there."""
    sort, _ = slow_sort_in(book, case)
    return None if sort == "quarrel" else dict(book[1])[sort]


def first_parted(one, other, cases):
    """The first of the cases with unlike rates, with them, or None; a quarrel raises nothing here."""
    for case in cases:
        rates = slow_rate(one, case), slow_rate(other, case)
        if rates[0] != rates[1]:
            return case, *rates
    return None


def some_rated(chance, *bounds):
    """A book of a few rules, with rates of which some may be alike."""
    return rated(some_book(chance, *bounds), *[chance.choice([0, 600, 600, 900]) for _ in range(3)])


def some_sound(chance, *bounds):
    """A book whose rules quarrel in no case, as quarrel_of tells it, perhaps as no two ranks are alike."""
    while True:
        base, rates, rules = some_rated(chance, *bounds)
        if chance.random() < 0.5:
            ranks = chance.sample(range(100), len(rules))
            rules = tuple((name, rank, *others) for rank, (name, _, *others) in zip(ranks, rules))
        if quarrel_of((base, rates, rules)) is None:
            return base, rates, rules


def kin_of(chance, book):
    """A sound book that is much like this one."""
    base, rates, rules = book
    at = chance.randrange(3)
    kept = [one for one in rules if chance.random() < 0.8]
    other = base, (*rates[:at], (rates[at][0], chance.choice([0, 600, 900])), *rates[at + 1:]), tuple(kept)
    if chance.random() < 0.5:
        other = base, rates, tuple(kept)
    return other if quarrel_of(other) is None else book


class Parted(unittest.TestCase):

    def check(self, one, other, wanted):
        with self.subTest(one=one, other=other):
            self.assertTrue(is_book(one) and is_book(other))
            cases = list(walk(*bounds_of(("base", RATES, one[2] + other[2]))))
            self.assertEqual(parted(one, other), wanted)
            self.assertEqual(first_parted(one, other, cases), wanted)
            turned = None if wanted is None else (wanted[0], wanted[2], wanted[1])
            self.assertEqual(parted(other, one), turned)
            if wanted is not None:
                self.assertTrue(is_case(wanted[0]))
                self.assertIs(shows_parted(one, other, wanted), True)

    def test_books_that_are_alike(self):
        for book in (PLAIN, late(("feast",)), ruled(*NEVER), late(("week", 8641), ("clock", 3, 2))):
            self.check(book, book, None)
            self.check(book, copy.deepcopy(book), None)

    def test_a_rate_that_no_case_asks_for(self):
        self.check(PLAIN, rated(PLAIN, 600, 5, 7), None)
        self.check(PLAIN, ("base", (("base", 600),), ()), None)
        self.check(late(("day", 1440)), rated(late(("day", 1440)), 600, 5, 7), None)
        self.check(late(("week", 10080)), PLAIN, None)
        self.check(late(("day", 480), ("clock", 0, 480)), PLAIN, None)
        self.check(late(("week", 1440), ("days", (0,))), PLAIN, None)
        self.check(ruled(rule("a", 5, "late"), rule("b", 6, "rest")), ruled(rule("a", 5, "rest")), None)

    def test_rates_alike_under_unlike_sorts(self):
        self.check(rated(late(), 600, 600, 0), PLAIN, None)
        self.check(("late", (("late", 600),), ()), PLAIN, None)
        self.check(rated(late(("clock", 0, 9)), 5, 5, 0), rated(ruled(rule("b", 1, "rest")), 0, 0, 5), None)
        self.check(rated(late(("clock", 0, 9)), 5, 6, 0), rated(ruled(rule("b", 1, "rest")), 0, 0, 5),
                   ((0, 0, 0, False), 6, 5))

    def test_sorts_alike_with_unlike_rates(self):
        self.check(PLAIN, rated(PLAIN, 601, 900, 0), ((0, 0, 0, False), 600, 601))
        self.check(late(("clock", 5, 9)), rated(late(("clock", 5, 9)), 600, 0, 0), ((0, 0, 5, False), 900, 0))

    def test_rates_at_their_bounds(self):
        zero, most = rated(PLAIN, 0, 0, 0), rated(PLAIN, 10 ** 6, 0, 0)
        self.check(zero, most, ((0, 0, 0, False), 0, 10 ** 6))
        self.check(most, rated(PLAIN, 10 ** 6 - 1, 0, 0), ((0, 0, 0, False), 10 ** 6, 10 ** 6 - 1))
        self.check(rated(late(("feast",)), 0, 10 ** 6, 0), zero, ((0, 0, 0, True), 10 ** 6, 0))

    def test_just_at_a_clock_a_day_a_feast(self):
        self.check(late(("clock", 480, 481)), PLAIN, ((0, 0, 480, False), 900, 600))
        self.check(late(("clock", 480, 960)), late(("clock", 480, 961)), ((0, 0, 960, False), 600, 900))
        self.check(late(("clock", 1439, 0)), PLAIN, ((0, 0, 1439, False), 900, 600))
        self.check(late(("clock", 1320, 360)), late(("clock", 1320, 361)), ((0, 0, 360, False), 600, 900))
        self.check(late(("days", (3, 5))), late(("days", (5,))), ((0, 0, 4320, False), 900, 600))
        self.check(late(("days", (6,)), ("clock", 1439, 0), ("feast",)), PLAIN, ((0, 0, 10079, True), 900, 600))
        self.check(late(("feast",)), PLAIN, ((0, 0, 0, True), 900, 600))
        self.check(late(("feast",), ("days", (1,))), late(("days", (1,))), ((0, 0, 1440, False), 600, 900))

    def test_just_where_many_minutes_lie_ahead(self):
        self.check(late(("day", 480)), PLAIN, ((480, 480, 480, False), 900, 600))
        self.check(late(("day", 480)), late(("day", 479)), ((479, 479, 479, False), 600, 900))
        self.check(late(("day", 1439)), PLAIN, ((1439, 1439, 1439, False), 900, 600))
        self.check(late(("week", 2400)), late(("week", 2401)), ((2400, 0, 2880, False), 900, 600))
        self.check(late(("week", 2400), ("day", 480)), PLAIN, ((2400, 480, 3360, False), 900, 600))
        self.check(late(("week", 2400), ("days", (1,))), PLAIN, ((2400, 960, 2400, False), 900, 600))
        self.check(late(("week", 2400), ("feast",)), PLAIN, ((2400, 0, 2880, True), 900, 600))

    def test_a_least_case_with_whole_days_ahead(self):
        self.check(late(("week", 8640)), PLAIN, ((8640, 0, 8640, False), 900, 600))
        self.check(late(("week", 8641), ("clock", 700, 800)), PLAIN, ((8641, 1, 9340, False), 900, 600))
        self.check(late(("week", 10079)), PLAIN, ((10079, 1439, 10079, False), 900, 600))
        self.check(late(("week", 1500), ("days", (1,)), ("clock", 0, 61)), PLAIN,
                   ((1500, 60, 1500, False), 900, 600))

    def test_where_just_both_together_part(self):
        # Both are late here, but each by another count.
        one, other = late(("day", 60)), late(("week", 60))
        self.check(one, other, ((60, 0, 1440, False), 600, 900))
        self.check(late(("days", (0,)), ("day", 60)), late(("days", (0,)), ("week", 60)), None)
        self.check(late(("day", 1)), late(("week", 1), ("days", (0,))), ((1, 1, 1441, False), 900, 600))

    def test_rules_that_would_quarrel_in_cases_that_cannot_come(self):
        self.assertIsNone(quarrel_of(ruled(*NEVER)))
        self.check(ruled(*NEVER), ruled(*NEVER[:1]), ((0, 0, 0, False), 0, 600))
        self.check(ruled(*NEVER), ruled(*NEVER[1:]), ((480, 480, 480, False), 900, 600))
        self.check(ruled(*NEVER), ruled(*NEVER[::-1]), None)

    def test_against_a_plain_walk(self):
        chance = random.Random(33)
        found = 0
        for _ in range(80):
            one = some_sound(chance, 3, 6, 9)
            other = kin_of(chance, one) if chance.random() < 0.6 else some_sound(chance, 3, 6, 9)
            # Beyond these numbers all conditions of these books stay as they are.
            wanted = first_parted(one, other, walk(range(8), range(8), range(12)))
            self.assertEqual(parted(one, other), wanted)
            found += wanted is not None
        self.assertTrue(20 < found < 75, found)

    def test_against_a_walk_over_the_bounds(self):
        chance = random.Random(34)
        found = 0
        for _ in range(25):
            one = some_sound(chance)
            other = kin_of(chance, one)
            cases = walk(*bounds_of(("base", RATES, one[2] + other[2])))
            wanted = first_parted(one, other, cases)
            self.assertEqual(parted(one, other), wanted)
            found += wanted is not None
        self.assertTrue(5 < found < 25, found)

    def test_no_lesser_case_parts(self):
        chance = random.Random(35)
        for _ in range(150):
            one = some_sound(chance)
            other = kin_of(chance, one)
            told = parted(one, other)
            for _ in range(100):
                case = some_case(chance)
                if told is None or case < told[0]:
                    self.assertEqual(slow_rate(one, case), slow_rate(other, case))

    def test_what_is_told_is_plain(self):
        told = parted(late(("feast",)), PLAIN)
        self.assertEqual([one.__class__ for one in (told, *told)], [tuple, tuple, int, int])
        self.assertEqual([one.__class__ for one in told[0]], [int, int, int, bool])


class Refused(unittest.TestCase):

    def refused(self, one, other, number):
        for asked in (parted, parting_row):
            kept = copy.deepcopy((one, other))
            with self.subTest(asked=asked, one=one, other=other):
                with self.assertRaises(Unsound) as caught:
                    asked(one, other)
                self.assertEqual(caught.exception.number, number)
                self.assertIs(caught.exception.number.__class__, int)
            self.assertEqual((one, other), kept)

    def test_the_one_the_other_both(self):
        for unsound in (pair(), pair(("feast",)), pair(("week", 10079)), pair(("day", 480), ("clock", 0, 481))):
            for sound in (PLAIN, late(("day", 5)), ruled(*NEVER), rated(PLAIN, 1, 1, 1)):
                self.refused(unsound, sound, 0)
                self.refused(sound, unsound, 1)
            self.refused(unsound, unsound, 0)
            self.refused(unsound, pair(), 0)
            self.refused(pair(), unsound, 0)

    def test_also_where_the_rates_are_alike(self):
        self.refused(rated(pair(), 600, 600, 600), PLAIN, 0)
        self.refused(PLAIN, rated(pair(), 600, 600, 600), 1)

    def test_also_behind_a_lesser_case_that_parts(self):
        self.refused(rated(pair(("week", 10079)), 1, 900, 0), PLAIN, 0)
        self.refused(rated(PLAIN, 1, 900, 0), pair(("week", 10079)), 1)


class ShowsParted(unittest.TestCase):

    def test_any_case_not_just_the_least(self):
        one = late(("clock", 480, 720))
        for case in ((0, 0, 480, False), (0, 0, 719, True), (9, 9, 500, False), (1500, 60, 1999, True)):
            self.assertIs(shows_parted(one, PLAIN, (case, 900, 600)), True)
            self.assertIs(shows_parted(PLAIN, one, (case, 600, 900)), True)
            for rates in ((600, 900), (900, 900), (600, 600), (900, 0), (0, 600), (901, 600), (900, 599)):
                self.assertIs(shows_parted(one, PLAIN, (case, *rates)), False)
        for case in ((0, 0, 479, False), (0, 0, 720, False), (9, 9, 1440, False)):
            for rates in ((600, 600), (900, 600), (600, 900), (900, 900)):
                self.assertIs(shows_parted(one, PLAIN, (case, *rates)), False)

    def test_alike_rates(self):
        self.assertIs(shows_parted(PLAIN, PLAIN, ((0, 0, 0, False), 600, 600)), False)
        self.assertIs(shows_parted(rated(late(), 5, 600, 0), PLAIN, ((0, 0, 0, False), 600, 600)), False)

    def test_cases_that_cannot_come(self):
        one = rated(PLAIN, 5, 900, 0)
        self.assertIs(shows_parted(one, PLAIN, ((5, 5, 5, False), 5, 600)), True)
        for case in ((5, 5, 4, False), (4, 5, 5, False), (6, 5, 5, False), (0, 0, 10080, False), (0, 0, -1, False),
                     (-1, 0, 5, False), (0, -1, 5, False), (1441, 0, 1440, False), (5, 5, 5), (5, 5, 5, False, 1),
                     (5, 5, 5, 0), (5, 5, 5, None), (True, 1, 1, False), (1, True, 1, False), (1, 1, True, False)):
            with self.subTest(case):
                self.assertIs(shows_parted(one, PLAIN, (case, 5, 600)), False)

    def test_where_one_quarrels(self):
        quarrels = pair(("clock", 5, 9))
        for rates in ((900, 600), (0, 600), (600, 600), (900, 0)):
            self.assertIs(shows_parted(quarrels, PLAIN, ((0, 0, 5, False), *rates)), False)
            self.assertIs(shows_parted(PLAIN, quarrels, ((0, 0, 5, False), *rates[::-1])), False)
            self.assertIs(shows_parted(quarrels, quarrels, ((0, 0, 5, False), *rates)), False)
        # Where it does not quarrel, it is told of this case, too.
        self.assertIs(shows_parted(quarrels, PLAIN, ((0, 0, 9, False), 900, 600)), True)
        self.assertIs(shows_parted(PLAIN, quarrels, ((0, 0, 4, True), 600, 900)), True)

    def test_truths_in_the_place_of_numbers(self):
        one, other = rated(PLAIN, 1, 900, 0), rated(PLAIN, 0, 900, 0)
        case = (0, 0, 0, False)
        self.assertIs(shows_parted(one, other, (case, 1, 0)), True)
        for rates in ((True, 0), (1, False), (True, False)):
            self.assertIs(shows_parted(one, other, (case, *rates)), False)
            self.assertIs(shows_parted(other, one, (case, *rates[::-1])), False)

    def test_parts_left_out_too_many_or_of_another_kind(self):
        one = late()
        thing = ((1, 1, 1, True), 900, 600)
        self.assertIs(shows_parted(one, PLAIN, thing), True)
        for wrong in (thing[:2], thing[:1], (*thing, 0), (*thing, None), (thing,), [thing], (900, 600, thing[0]),
                      (thing[0], (900, 600)), (*thing[0], 900, 600), ((0, 0, 0), 900, 600), *spoiled(thing)):
            with self.subTest(wrong):
                self.assertIs(shows_parted(one, PLAIN, wrong), False)

    def test_anything(self):
        one = late()
        for thing in odd_things():
            kept = copy.deepcopy(thing)
            self.assertIs(shows_parted(one, PLAIN, thing), False)
            for wrong in ((thing, 900, 600), ((0, 0, 0, False), thing, 600), ((0, 0, 0, False), 900, thing),
                          ((0, 0, 0, thing), 900, 600), (thing, thing, thing)):
                if thing is not False and thing is not True:
                    self.assertIs(shows_parted(one, PLAIN, wrong), False)
            self.assertEqual(thing, kept)

    def test_drawn_cases(self):
        chance = random.Random(36)
        shown = 0
        for _ in range(300):
            one = some_rated(chance, 60, 200, 1440)
            other = some_rated(chance, 60, 200, 1440)
            for _ in range(10):
                case = some_case(chance)
                rates = slow_rate(one, case), slow_rate(other, case)
                wanted = None not in rates and rates[0] != rates[1]
                self.assertIs(shows_parted(one, other, (case, *rates)), wanted)
                shown += wanted
                if rates[0] != 5:
                    self.assertIs(shows_parted(one, other, (case, 5, rates[1])), False)
        self.assertTrue(300 < shown < 2700, shown)


class PartingRow(unittest.TestCase):

    def test_known(self):
        for one, other, wanted in (
                (PLAIN, PLAIN, None), (PLAIN, rated(PLAIN, 600, 5, 7), None),
                (PLAIN, rated(PLAIN, 601, 0, 0), ([(0, 1)], [], 600, 601)),
                (late(("feast",)), PLAIN, ([(0, 1)], [0], 900, 600)),
                (late(("feast",), ("days", (4,))), PLAIN, ([(5760, 5761)], [4], 900, 600)),
                (late(("clock", 480, 481)), PLAIN, ([(480, 481)], [], 900, 600)),
                (late(("day", 480)), PLAIN, ([(0, 481)], [], 480 * 600 + 900, 481 * 600)),
                (late(("day", 480), ("clock", 600, 0)), PLAIN, ([(0, 480), (600, 601)], [], 288900, 288600)),
                (late(("week", 2400)), PLAIN, ([(0, 2400), (2880, 2881)], [], 2400 * 600 + 900, 2401 * 600)),
                (late(("week", 8640)), PLAIN, ([(0, 8641)], [], 8640 * 600 + 900, 8641 * 600)),
                (late(("week", 1500), ("days", (1,)), ("feast",)), PLAIN, ([(0, 1501)], [1], 900900, 900600)),
                (ruled(*NEVER), ruled(NEVER[1]), ([(0, 481)], [], 900, 600))):
            with self.subTest(one=one, other=other):
                told = parting_row(one, other)
                self.assertEqual(told, wanted)
                if told is not None:
                    self.assertEqual([part.__class__ for part in told], [list, list, int, int])

    def test_it_is_paid_unlike_and_no_lot_of_fewer_minutes_is(self):
        chance = random.Random(37)
        found = 0
        for _ in range(120):
            one = some_sound(chance, 60, 200, 1440)
            other = kin_of(chance, one)
            told = parting_row(one, other)
            lots = [(some_lot(chance, 30000, 5, 300), [chance.randrange(21) for _ in range(5)]) for _ in range(5)]
            if told is not None:
                found += 1
                lot, feasts, due_by_one, due_by_other = told
                case, *rates = parted(one, other)
                self.assertEqual((due(lot, feasts, one), due(lot, feasts, other)), (due_by_one, due_by_other))
                self.assertEqual(due_by_one - due_by_other, rates[0] - rates[1])
                self.assertNotEqual(due_by_one, due_by_other)
                self.assertEqual(case_at(lot, feasts, lot[-1][1] - 1), case)
                lots.append((lot[:-1] + [(lot[-1][0], lot[-1][1] - 1)] if lot[-1][1] - lot[-1][0] > 1 else lot[:-1],
                             feasts))
            for lot, feasts in lots:
                if told is None or len(minutes_of(lot)) < len(minutes_of(told[0])):
                    self.assertEqual(due(lot, feasts, one), due(lot, feasts, other))
        self.assertTrue(30 < found < 115, found)

    def test_lists_are_the_askers_own(self):
        one = late(("week", 2400), ("feast",))
        kept = copy.deepcopy(one)
        told = parting_row(one, PLAIN)
        wanted = copy.deepcopy(told)
        told[0].clear()
        told[1].append(5)
        self.assertEqual(parting_row(one, PLAIN), wanted)
        self.assertEqual(one, kept)
        self.assertEqual(PLAIN, ruled())


class ToldSoon(unittest.TestCase):

    def test_two_books_of_eight_rules_of_five_conditions(self):
        chance = random.Random(38)
        for _ in range(6):
            books = [ruled(*[
                rule(name, at, ("late", "rest")[at % 2], ("clock", *chance.sample(range(1440), 2)),
                     ("days", tuple(sorted(chance.sample(range(7), 6)))), ("feast",),
                     ("day", chance.randint(1, 600)), ("week", chance.randint(1, 8000)))
                for at, name in enumerate("abcdefgh")]) for _ in range(2)]
            told = parted(*books)
            self.assertTrue(shows_parted(*books, told))
            self.assertIsNone(parted(books[0], books[0]))
            for _ in range(300):
                case = some_case(chance)
                if case < told[0]:
                    self.assertEqual(slow_rate(books[0], case), slow_rate(books[1], case))


if __name__ == "__main__":
    unittest.main()
