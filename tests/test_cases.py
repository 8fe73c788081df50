"""Points [16] and [17]: cases, the rules that hold in them, the sort that they tell, their rows."""

import copy
import random
import unittest

from hourcoin.cases import holds, is_case, row_of, sort_in
from hourcoin.errors import Quarrel
from hourcoin.lots import is_lot
from tests.test_books import of, ruled
from tests.things import odd_things, spoiled

SORTS = ("base", "late", "rest")


def rule(name, rank, sort, *conditions):
    """A rule."""
    return name, rank, sort, conditions


def slow_holds(one, case):
    """What points [14] and [16] word of a rule in a case."""
    week, day, place, feast = case
    for condition in one[3]:
        if condition[0] == "clock":
            _, a, b = condition
            spans = [range(a, b)] if a < b else [range(a, 1440), range(b)]
            held = any(place % 1440 in span for span in spans)
        elif condition[0] == "days":
            held = place // 1440 in condition[1]
        elif condition[0] == "feast":
            held = feast
        else:
            held = {"day": day, "week": week}[condition[0]] >= condition[1]
        if not held:
            return False
    return True


def slow_sort_in(book, case):
    """The tuple (sort, name), or the names of two rules that quarrel, as point [16] words it."""
    held = [one for one in book[2] if slow_holds(one, case)]
    if not held:
        return book[0], None
    greatest = max(one[1] for one in held)
    first, *others = [one for one in held if one[1] == greatest]
    for other in others:
        if other[2] != first[2]:
            return "quarrel", (first[0], other[0])
    return first[2], first[0]


def some_rule(chance, name, day, week, clock):
    """A rule of a few conditions, with counts and clocks at most these."""
    made = []
    for word in chance.sample(["clock", "days", "feast", "day", "week"], chance.choice([0, 1, 1, 2, 2, 3, 5])):
        if word == "clock":
            made.append((word, *chance.sample(range(clock), 2)))
        elif word == "days":
            made.append((word, tuple(sorted(chance.sample(range(7), chance.randint(1, 4))))))
        elif word == "feast":
            made.append((word,))
        else:
            made.append((word, chance.randint(1, day if word == "day" else week)))
    return name, chance.choice([0, 1, 1, 2]), chance.choice(SORTS), tuple(made)


def some_book(chance, day=1440, week=10080, clock=1440):
    """A book of up to eight rules."""
    return ruled(*[some_rule(chance, name, day, week, clock) for name in "abcdefgh"[:chance.randint(0, 8)]])


def some_case(chance):
    """A case that can come."""
    place = chance.randrange(10080)
    day = chance.randint(0, place % 1440)
    ahead = chance.randint(0, place // 1440 * 1440)
    return ahead + day, day, place, chance.random() < 0.5


class IsCase(unittest.TestCase):

    def test_cases_that_can_come(self):
        for case in ((0, 0, 0, False), (0, 0, 0, True), (0, 0, 10079, False), (10079, 1439, 10079, True),
                     (8640, 0, 10079, False), (8640, 0, 8640, False), (1439, 1439, 1439, False),
                     (5, 5, 5, False), (1440, 0, 1440, False), (1500, 60, 1500, True), (60, 60, 1500, False)):
            with self.subTest(case):
                self.assertIs(is_case(case), True)

    def test_as_many_minutes_ahead_as_there_may_be_and_one_more(self):
        for weekday in range(7):
            for clock in (0, 1, 700, 1439):
                place = 1440 * weekday + clock
                most = 1440 * weekday
                for week, day, wanted in (
                        (most + clock, clock, True), (most, 0, True), (clock, clock, True),
                        (most + clock + 1, clock + 1, False), (most + clock + 1, clock, False),
                        (most + 1, 0, False), (clock + 1, clock + 1, False), (clock - 1, clock, False),
                        (0, 1, False), (0, -1, False), (-1, -1, False), (-1, 0, False), (0, 0, True)):
                    with self.subTest(week=week, day=day, place=place):
                        self.assertIs(is_case((week, day, place, False)), wanted)
                        self.assertIs(is_case((week, day, place, True)), wanted)

    def test_places(self):
        for place in (-1, 10080, 10 ** 30, -(10 ** 30)):
            self.assertIs(is_case((0, 0, place, False)), False)

    def test_parts_left_out_too_many_or_of_another_kind(self):
        for thing in ((0, 0, 0), (0, 0, 0, False, False), (0, 0, False), [0, 0, 0, False], (0, 0, 0, 0),
                      (0, 0, 0, 1), (0, 0, 0, None), (0, 0, 0, "True"), (False, 0, 5, False),
                      (0, False, 5, False), (1, True, 5, False), (True, 1, 5, True), (0, 0, False, False),
                      (0, 0, True, False), (None, 0, 5, False), (0, None, 5, False), (0, 0, None, False),
                      ("0", 0, 5, False), (0, 0, 5, [False]), ((0, 0, 5, False),), (False, 0, 0, 0)):
            with self.subTest(thing):
                self.assertIs(is_case(thing), False)
        for thing in spoiled((70, 5, 1500, False)):
            with self.subTest(thing):
                self.assertIs(is_case(thing), False)

    def test_anything(self):
        for thing in odd_things():
            self.assertIs(is_case(thing), False)
            if isinstance(thing, bool) or not isinstance(thing, int):
                self.assertIs(is_case((thing, 0, 1440, False)), False)
                self.assertIs(is_case((0, thing, 1440, False)), False)
                self.assertIs(is_case((0, 0, thing, False)), False)
            self.assertIs(is_case((0, 0, 0, thing)), isinstance(thing, bool))


class Holds(unittest.TestCase):

    def check(self, one, case, wanted):
        with self.subTest(rule=one, case=case):
            self.assertTrue(is_case(case))
            self.assertIs(holds(one, case), wanted)
            self.assertIs(slow_holds(one, case), wanted)

    def test_no_conditions(self):
        self.check(of(), (0, 0, 0, False), True)
        self.check(of(), (10079, 1439, 10079, True), True)

    def test_clocks(self):
        for day in (0, 3, 6):
            for a, b, rows in (
                    (480, 720, ((479, False), (480, True), (719, True), (720, False), (0, False))),
                    (1320, 360, ((1319, False), (1320, True), (1439, True), (0, True), (359, True), (360, False))),
                    (0, 5, ((0, True), (4, True), (5, False), (1439, False))),
                    (5, 0, ((4, False), (5, True), (1439, True), (0, False))),
                    (0, 1, ((0, True), (1, False))), (1, 0, ((0, False), (1, True), (1439, True))),
                    (1439, 0, ((1438, False), (1439, True), (0, False))),
                    (0, 1439, ((0, True), (1438, True), (1439, False)))):
                for clock, wanted in rows:
                    self.check(of(("clock", a, b)), (0, 0, 1440 * day + clock, False), wanted)

    def test_days(self):
        for some in ((0,), (6,), (1, 3, 5), tuple(range(7))):
            for weekday in range(7):
                for clock in (0, 1439):
                    self.check(of(("days", some)), (0, 0, 1440 * weekday + clock, True), weekday in some)

    def test_feasts(self):
        self.check(of(("feast",)), (0, 0, 5, True), True)
        self.check(of(("feast",)), (0, 0, 5, False), False)

    def test_counts_at_a_bound_and_one_beyond(self):
        for day, count, wanted in ((4, 5, False), (5, 5, True), (6, 5, True), (0, 1, False), (1, 1, True),
                                   (1439, 1440, False), (1439, 1439, True)):
            self.check(of(("day", count)), (day + 1440, day, 2879, False), wanted)
        for week, count, wanted in ((4, 5, False), (5, 5, True), (0, 1, False), (1, 1, True),
                                    (10079, 10080, False), (10079, 10079, True)):
            day = max(week - 8640, 0)
            self.check(of(("week", count)), (week, day, 10079, False), wanted)
        # The minutes of the day alone count for the one, all of the week for the other.
        self.check(of(("day", 10)), (100, 9, 2000, False), False)
        self.check(of(("week", 10)), (100, 0, 2000, False), True)

    def test_all_conditions(self):
        one = of(("clock", 480, 720), ("days", (1, 2)), ("feast",), ("day", 5), ("week", 50))
        self.check(one, (50, 5, 1440 + 480, True), True)
        for case in ((49, 5, 1920, True), (50, 4, 1920, True), (50, 5, 1919, True), (50, 5, 1920, False),
                     (50, 5, 480 + 3 * 1440, True)):
            self.check(one, case, False)

    def test_by_the_words(self):
        chance = random.Random(14)
        for _ in range(3000):
            self.check_one(some_rule(chance, "a", 1440, 10080, 1440), some_case(chance))

    def check_one(self, one, case):
        self.assertTrue(is_case(case))
        self.assertIs(holds(one, case), slow_holds(one, case))


class SortIn(unittest.TestCase):

    CASE = (70, 5, 1500, False)

    def told(self, *rules):
        return sort_in(ruled(*rules), self.CASE)

    def quarrel(self, *rules):
        with self.assertRaises(Quarrel) as caught:
            self.told(*rules)
        self.assertIsNone(caught.exception.minute)
        self.assertIs(caught.exception.names.__class__, tuple)
        return caught.exception.names

    def test_the_base_where_no_rule_holds(self):
        self.assertEqual(self.told(), ("base", None))
        self.assertEqual(self.told(rule("a", 99, "late", ("feast",))), ("base", None))

    def test_one_rule(self):
        self.assertEqual(self.told(rule("a", 0, "late")), ("late", "a"))
        self.assertEqual(self.told(rule("a", 0, "base")), ("base", "a"))
        self.assertEqual(self.told(rule("a", 9, "rest", ("feast",)), rule("b", 0, "late")), ("late", "b"))

    def test_those_of_the_greatest_rank_tell(self):
        self.assertEqual(self.told(rule("a", 0, "late"), rule("b", 1, "rest")), ("rest", "b"))
        self.assertEqual(self.told(rule("a", 99, "late"), rule("b", 98, "rest")), ("late", "a"))
        self.assertEqual(self.told(rule("a", 10, "late"), rule("b", 9, "rest")), ("late", "a"))
        self.assertEqual(self.told(rule("a", 5, "late"), rule("b", 9, "rest", ("feast",))), ("late", "a"))

    def test_the_first_in_the_books_order(self):
        self.assertEqual(self.told(rule("b", 5, "late"), rule("a", 5, "late")), ("late", "b"))
        self.assertEqual(self.told(rule("c", 5, "late", ("feast",)), rule("b", 5, "late"), rule("a", 5, "late")),
                         ("late", "b"))

    def test_quarrels(self):
        self.assertEqual(self.quarrel(rule("a", 5, "late"), rule("b", 5, "rest")), ("a", "b"))
        self.assertEqual(self.quarrel(rule("z", 0, "rest"), rule("b", 0, "base")), ("z", "b"))
        self.assertEqual(self.quarrel(rule("low", 1, "late"), rule("a", 5, "late"), rule("b", 5, "rest")), ("a", "b"))

    def test_three_of_one_rank_of_which_two_tell_the_same(self):
        a, b, c = rule("a", 5, "late"), rule("b", 5, "late"), rule("c", 5, "rest")
        self.assertEqual(self.quarrel(a, b, c), ("a", "c"))
        self.assertEqual(self.quarrel(b, a, c), ("b", "c"))
        self.assertEqual(self.quarrel(a, c, b), ("a", "c"))
        self.assertEqual(self.quarrel(c, a, b), ("c", "a"))
        self.assertEqual(self.quarrel(a, c, rule("d", 5, "base")), ("a", "c"))

    def test_a_greater_rank_hides_a_quarrel(self):
        a, b = rule("a", 5, "late"), rule("b", 5, "rest")
        self.assertEqual(self.told(a, b, rule("c", 6, "base")), ("base", "c"))
        self.assertEqual(self.quarrel(a, b, rule("c", 6, "base", ("feast",))), ("a", "b"))
        self.assertEqual(self.quarrel(a, b, rule("c", 4, "base")), ("a", "b"))

    def test_by_the_words(self):
        chance = random.Random(15)
        quarrels = 0
        for _ in range(3000):
            book, case = some_book(chance), some_case(chance)
            wanted = slow_sort_in(book, case)
            try:
                told = sort_in(book, case)
            except Quarrel as quarrel:
                told = "quarrel", quarrel.names
                quarrels += 1
            self.assertEqual(told, wanted)
            self.assertIs(told.__class__, tuple)
        self.assertGreater(quarrels, 100)


class RowOf(unittest.TestCase):

    def test_ordinary(self):
        for case, row in (
                ((0, 0, 0, False), ([(0, 1)], [])),
                ((0, 0, 0, True), ([(0, 1)], [0])),
                ((0, 0, 1500, True), ([(1500, 1501)], [1])),
                ((5, 5, 1500, False), ([(1440, 1445), (1500, 1501)], [])),
                ((60, 60, 1500, False), ([(1440, 1501)], [])),
                ((70, 10, 1500, True), ([(0, 60), (1440, 1450), (1500, 1501)], [1])),
                ((60, 0, 1500, False), ([(0, 60), (1500, 1501)], [])),
                ((1450, 10, 1500, False), ([(0, 1450), (1500, 1501)], [])),
                ((1440, 0, 1440, False), ([(0, 1441)], [])),
                ((10079, 1439, 10079, True), ([(0, 10080)], [6])),
                ((8640, 0, 10079, False), ([(0, 8640), (10079, 10080)], []))):
            with self.subTest(case):
                self.assertTrue(is_case(case))
                self.assertEqual(row_of(case), row)
                self.assertTrue(is_lot(row[0]))

    def test_new_lists(self):
        case = (70, 10, 1500, True)
        told = row_of(case)
        self.assertIs(told.__class__, tuple)
        wanted = copy.deepcopy(told)
        for one in told:
            one.append("more")
            one[0] = "other"
        self.assertEqual(row_of(case), wanted)
        row_of((0, 0, 0, False))[1].append("more")
        self.assertEqual(row_of((0, 0, 0, False)), ([(0, 1)], []))


class NothingChanged(unittest.TestCase):

    def test_what_is_handed_in_stays(self):
        book = ruled(rule("a", 5, "late", ("days", (1, 2)), ("clock", 0, 700)), rule("b", 5, "rest"))
        thing = [70, [5], {"a": (1500, False)}]
        kept = copy.deepcopy((book, thing))
        is_case(thing)
        holds(book[2][0], (70, 5, 1500, False))
        with self.assertRaises(Quarrel):
            sort_in(book, (70, 5, 1500, False))
        self.assertEqual((book, thing), kept)


if __name__ == "__main__":
    unittest.main()
