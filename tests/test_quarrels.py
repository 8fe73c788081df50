"""Point [19] and what [3] says of it: books looked through for the least case of a quarrel."""

import copy
import random
import unittest

from hourcoin.books import is_book
from hourcoin.cases import is_case, row_of, sort_in
from hourcoin.errors import Quarrel
from hourcoin.quarrels import quarrel_of
from hourcoin.sorting import sorted_out
from tests.test_books import ruled
from tests.test_cases import rule, slow_sort_in, some_book, some_case

DAYS_AHEAD = [1440 * many for many in range(7)]


def walk(weeks, days, clocks):
    """All cases that can come of these weeks, days and clocks, rising."""
    for week in weeks:
        for day in days:
            for weekday in range(7):
                for clock in clocks:
                    if 0 <= week - day <= 1440 * weekday and day <= clock:
                        for feast in (False, True):
                            yield week, day, 1440 * weekday + clock, feast


def first_quarrel(book, cases):
    """The first of the cases in which rules quarrel, with the names, or None."""
    for case in cases:
        sort, names = slow_sort_in(book, case)
        if sort == "quarrel":
            return case, names
    return None


def bounds_of(book):
    """The weeks, days and clocks that a least case of this book may have, and some beside them."""
    told = {word: [0] for word in ("clock", "day", "week")}
    for one in book[2]:
        for condition in one[3]:
            if condition[0] in told:
                told[condition[0]].extend(condition[1:])
    weeks = set(told["week"] + told["day"])
    days = {0, *told["day"], *[week - ahead for week in weeks for ahead in DAYS_AHEAD]}
    weeks |= {week + 1 for week in weeks}
    days |= {day + 1 for day in days}
    clocks = {*told["clock"], *days, 1439} | {clock + 1 for clock in told["clock"]}
    return (sorted(week for week in weeks if 0 <= week < 10080),
            sorted(day for day in days if 0 <= day < 1440),
            sorted(clock for clock in clocks if 0 <= clock < 1440))


def pair(*conditions):
    """A book of two rules that quarrel where all these conditions hold."""
    return ruled(rule("a", 5, "late"), rule("b", 5, "rest", *conditions))


class QuarrelOf(unittest.TestCase):

    def check(self, book, wanted):
        with self.subTest(book):
            self.assertTrue(is_book(book))
            self.assertEqual(quarrel_of(book), wanted)
            self.assertEqual(first_quarrel(book, walk(*bounds_of(book))), wanted)
            if wanted is not None:
                case, names = wanted
                self.assertTrue(is_case(case))
                with self.assertRaises(Quarrel) as caught:
                    sort_in(book, case)
                self.assertEqual(caught.exception.names, names)

    def test_none(self):
        self.check(ruled(), None)
        self.check(ruled(rule("a", 5, "late")), None)
        self.check(ruled(rule("a", 5, "late"), rule("b", 5, "late")), None)
        self.check(ruled(rule("a", 5, "late"), rule("b", 6, "rest")), None)
        self.check(ruled(rule("a", 0, "late"), rule("b", 99, "rest")), None)
        # The base is no rule's, so a rule of the base's sort quarrels only with other rules.
        self.check(ruled(rule("a", 0, "base")), None)
        self.check(ruled(rule("a", 0, "base"), rule("b", 0, "late")), ((0, 0, 0, False), ("a", "b")))

    def test_the_least_case(self):
        self.check(pair(), ((0, 0, 0, False), ("a", "b")))
        self.check(pair(("feast",)), ((0, 0, 0, True), ("a", "b")))
        self.check(pair(("clock", 480, 720)), ((0, 0, 480, False), ("a", "b")))
        self.check(pair(("clock", 1320, 360)), ((0, 0, 0, False), ("a", "b")))
        self.check(pair(("clock", 1320, 0)), ((0, 0, 1320, False), ("a", "b")))
        self.check(pair(("clock", 0, 1)), ((0, 0, 0, False), ("a", "b")))
        self.check(pair(("clock", 1439, 0)), ((0, 0, 1439, False), ("a", "b")))
        self.check(pair(("days", (3, 5))), ((0, 0, 4320, False), ("a", "b")))
        self.check(pair(("days", (6,)), ("clock", 1439, 0), ("feast",)), ((0, 0, 10079, True), ("a", "b")))

    def test_counts_of_a_day(self):
        self.check(pair(("day", 1)), ((1, 1, 1, False), ("a", "b")))
        self.check(pair(("day", 480)), ((480, 480, 480, False), ("a", "b")))
        self.check(pair(("day", 1439)), ((1439, 1439, 1439, False), ("a", "b")))
        self.check(pair(("day", 480), ("clock", 0, 481)), ((480, 480, 480, False), ("a", "b")))
        self.check(pair(("day", 480), ("clock", 900, 100)), ((480, 480, 900, False), ("a", "b")))
        self.check(pair(("day", 480), ("days", (2,))), ((480, 480, 3360, False), ("a", "b")))

    def test_counts_of_a_week(self):
        # The least day goes ahead of the least place: the minutes lie on a day ahead.
        self.check(pair(("week", 1)), ((1, 0, 1440, False), ("a", "b")))
        self.check(pair(("week", 1440)), ((1440, 0, 1440, False), ("a", "b")))
        self.check(pair(("week", 1441)), ((1441, 0, 2880, False), ("a", "b")))
        self.check(pair(("week", 2400), ("clock", 480, 720)), ((2400, 0, 3360, False), ("a", "b")))
        self.check(pair(("week", 5), ("days", (0,))), ((5, 5, 5, False), ("a", "b")))
        self.check(pair(("week", 2400), ("days", (1,))), ((2400, 960, 2400, False), ("a", "b")))
        self.check(pair(("week", 2400), ("day", 480)), ((2400, 480, 3360, False), ("a", "b")))
        self.check(pair(("week", 400), ("day", 480)), ((480, 480, 480, False), ("a", "b")))

    def test_such_as_only_whole_days_ahead_make_possible(self):
        self.check(pair(("week", 8640)), ((8640, 0, 8640, False), ("a", "b")))
        self.check(pair(("week", 8641)), ((8641, 1, 8641, False), ("a", "b")))
        self.check(pair(("week", 8641), ("clock", 700, 800)), ((8641, 1, 9340, False), ("a", "b")))
        self.check(pair(("week", 10079)), ((10079, 1439, 10079, False), ("a", "b")))
        self.check(pair(("week", 1500), ("days", (1,)), ("clock", 0, 61)), ((1500, 60, 1500, False), ("a", "b")))
        self.check(pair(("week", 1440), ("days", (1,)), ("clock", 0, 1)), ((1440, 0, 1440, False), ("a", "b")))

    def test_such_as_no_case_that_can_come_has(self):
        self.check(pair(("day", 1440)), None)
        self.check(pair(("week", 10080)), None)
        self.check(pair(("week", 1440), ("days", (0,))), None)
        self.check(pair(("week", 1439), ("days", (0,))), ((1439, 1439, 1439, False), ("a", "b")))
        self.check(pair(("day", 480), ("clock", 0, 480)), None)
        self.check(pair(("week", 1500), ("days", (1,)), ("clock", 0, 60)), None)
        self.check(pair(("week", 1441), ("days", (1,)), ("clock", 0, 1)), None)
        self.check(pair(("week", 8640), ("days", (0, 1, 2, 3, 4, 5)), ("clock", 0, 1439)), None)
        # Nine minutes of a day lie ahead of no clock below nine.
        self.check(ruled(rule("a", 5, "late", ("day", 9)), rule("b", 5, "rest", ("clock", 0, 9))), None)
        self.check(ruled(rule("a", 5, "late", ("clock", 0, 9)), rule("b", 5, "rest", ("clock", 9, 0))), None)
        self.check(ruled(rule("a", 5, "late", ("days", (0, 2))), rule("b", 5, "rest", ("days", (1, 3)))), None)

    def test_a_greater_rank_hides_a_quarrel(self):
        a, b = rule("a", 5, "late"), rule("b", 5, "rest")
        self.check(ruled(a, b, rule("c", 6, "base")), None)
        self.check(ruled(a, rule("c", 6, "base"), b), None)
        self.check(ruled(a, b, rule("c", 4, "base")), ((0, 0, 0, False), ("a", "b")))
        self.check(ruled(a, b, rule("c", 6, "base", ("clock", 0, 30))), ((0, 0, 30, False), ("a", "b")))
        self.check(ruled(a, b, rule("c", 6, "base", ("days", (0, 1)))), ((0, 0, 2880, False), ("a", "b")))
        self.check(ruled(a, b, rule("c", 6, "base", ("feast",))), ((0, 0, 0, False), ("a", "b")))
        self.check(ruled(a, b, rule("c", 6, "base", ("days", tuple(range(7))))), None)
        # Hidden until a count is reached, where one of a greater rank quarrels itself.
        self.check(ruled(a, b, rule("c", 6, "base"), rule("d", 6, "late", ("day", 7))), ((7, 7, 7, False), ("c", "d")))

    def test_three_of_one_rank_of_which_two_tell_the_same(self):
        a, b, c = rule("a", 5, "late"), rule("b", 5, "late"), rule("c", 5, "rest")
        self.check(ruled(a, b, c), ((0, 0, 0, False), ("a", "c")))
        self.check(ruled(b, c, a), ((0, 0, 0, False), ("b", "c")))
        self.check(ruled(c, a, b), ((0, 0, 0, False), ("c", "a")))
        self.check(ruled(rule("a", 5, "late", ("clock", 60, 90)), b, c), ((0, 0, 0, False), ("b", "c")))

    def test_of_two_quarrels_the_least(self):
        book = ruled(rule("a", 5, "late", ("day", 10)), rule("b", 5, "rest", ("week", 9)),
                     rule("c", 5, "base", ("days", (0,)), ("clock", 9, 50)))
        self.check(book, ((9, 9, 9, False), ("b", "c")))
        self.check(ruled(*book[2][:2]), ((10, 10, 10, False), ("a", "b")))

    def test_against_a_plain_walk(self):
        chance = random.Random(20)
        found = 0
        for _ in range(150):
            book = some_book(chance, 3, 6, 9)
            # Beyond these numbers all conditions of these books stay as they are.
            wanted = first_quarrel(book, walk(range(8), range(8), range(12)))
            self.assertEqual(quarrel_of(book), wanted)
            found += wanted is not None
        self.assertTrue(30 < found < 140, found)

    def test_against_a_walk_over_the_bounds(self):
        chance = random.Random(21)
        found = 0
        for _ in range(60):
            book = some_book(chance)
            wanted = first_quarrel(book, walk(*bounds_of(book)))
            self.assertEqual(quarrel_of(book), wanted)
            found += wanted is not None
        self.assertTrue(10 < found < 55, found)

    def test_no_lesser_case_quarrels(self):
        chance = random.Random(22)
        for _ in range(200):
            book = some_book(chance)
            told = quarrel_of(book)
            for _ in range(100):
                case = some_case(chance)
                if told is None or case < told[0]:
                    self.assertNotEqual(slow_sort_in(book, case)[0], "quarrel")

    def test_the_row_of_the_case_is_refused_at_its_last_minute(self):
        chance = random.Random(23)
        for _ in range(200):
            book = some_book(chance)
            told = quarrel_of(book)
            if told is not None:
                lot, feasts = row_of(told[0])
                with self.assertRaises(Quarrel) as caught:
                    sorted_out(lot, feasts, book)
                self.assertEqual(caught.exception.names, told[1])
                self.assertEqual(caught.exception.minute, lot[-1][1] - 1)

    def test_what_is_handed_in_stays(self):
        for book in (pair(("day", 480), ("clock", 0, 481)), ruled()):
            kept = copy.deepcopy(book)
            told = quarrel_of(book)
            self.assertEqual(quarrel_of(book), told)
            self.assertEqual(book, kept)
        told = quarrel_of(pair())
        self.assertEqual([one.__class__ for one in (told, *told)], [tuple, tuple, tuple])
        self.assertEqual([one.__class__ for one in told[0]], [int, int, int, bool])


class ToldSoon(unittest.TestCase):

    def test_eight_rules_of_five_conditions(self):
        chance = random.Random(24)
        for _ in range(5):
            rules = [rule(name, 5, "late", ("clock", *chance.sample(range(1440), 2)),
                          ("days", tuple(sorted(chance.sample(range(7), 6)))), ("feast",),
                          ("day", chance.randint(1, 600)), ("week", chance.randint(1, 8000)))
                     for name in "abcdefgh"]
            self.assertIsNone(quarrel_of(ruled(*rules)))
            book = ruled(*rules[:7], ("h", 5, "rest", rules[7][3]))
            self.assertEqual(quarrel_of(book), first_quarrel_soon(book))


def first_quarrel_soon(book):
    """The least case of the bounds of each two rules of such a book, tried one by one."""
    found = []
    for one in book[2][:7]:
        told = quarrel_of(("base", book[1], (one, book[2][7])))
        if told is not None:
            found.append(told)
    least = min(case for case, _ in found)
    return least, slow_sort_in(book, least)[1]


if __name__ == "__main__":
    unittest.main()
