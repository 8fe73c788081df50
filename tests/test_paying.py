"""Point [22]: what counted minutes are due, lines, their worth and their difference."""

import copy
import random
import unittest

from hourcoin.errors import Quarrel
from hourcoin.paying import difference, due, lines, worth
from tests.test_books import ruled
from tests.test_cases import rule, slow_sort_in, some_book
from tests.test_sorting import BUSY_LOT, BUSY_RULES, fast_sorted_out, slow_cases, slow_sorted_out, some_lot

LAST = 999999359


def rated(book, **rates):
    """The book with these rates."""
    return book[0], tuple(sorted(rates.items())), book[2]


def slow_lines(lot, feasts, book):
    """What point [22] words, minute by minute; of a quarrel the names and the minute."""
    told = {}
    for minute, case in slow_cases(lot, feasts).items():
        sort, name = slow_sort_in(book, case)
        if sort == "quarrel":
            return name, minute
        key = (minute // 1440, sort, dict(book[1])[sort])
        told[key] = told.get(key, 0) + 1
    return [(*key, told[key]) for key in sorted(told)]


def fast_lines(lot, feasts, book):
    """What is told, or of a quarrel the names and the minute."""
    try:
        return lines(lot, feasts, book)
    except Quarrel as quarrel:
        return quarrel.names, quarrel.minute


def some_lines(chance):
    """A list of lines, minutes perhaps below 0."""
    keys = {(chance.randrange(4), chance.choice(["base", "late"]), chance.choice([0, 600, 900]))
            for _ in range(chance.randint(0, 12))}
    return [(*key, chance.choice([-30, -1, 1, 2, 30])) for key in sorted(keys)]


class Lines(unittest.TestCase):

    def check(self, lot, feasts, book, wanted):
        with self.subTest(lot=lot, feasts=feasts, book=book):
            self.assertEqual(fast_lines(lot, feasts, book), wanted)
            self.assertEqual(slow_lines(lot, feasts, book), wanted)

    def test_no_minutes(self):
        self.check([], [], ruled(), [])
        self.check([], [3], ruled(rule("a", 1, "late"), rule("b", 1, "rest")), [])

    def test_one_sort(self):
        self.check([(5, 9)], [], ruled(), [(0, "base", 600, 4)])
        self.check([(5, 9), (20, 30), (1440, 1441)], [], ruled(), [(0, "base", 600, 14), (1, "base", 600, 1)])
        self.check([(5, 6)], [], rated(ruled(), base=0), [(0, "base", 0, 1)])
        self.check([(5, 6)], [], rated(ruled(), base=10 ** 6), [(0, "base", 10 ** 6, 1)])

    def test_a_days_end_and_a_weeks_end_amid_a_stretch(self):
        self.check([(1400, 1500)], [], ruled(), [(0, "base", 600, 40), (1, "base", 600, 60)])
        self.check([(10000, 10100)], [], ruled(), [(6, "base", 600, 80), (7, "base", 600, 20)])
        self.check([(0, 4320)], [], ruled(), [(day, "base", 600, 1440) for day in range(3)])
        book = ruled(rule("long", 1, "late", ("week", 50)))
        self.check([(10000, 10150)], [], book, [
            (6, "base", 600, 50), (6, "late", 900, 30), (7, "base", 600, 50), (7, "late", 900, 20)])
        book = ruled(rule("long", 1, "late", ("day", 30)))
        self.check([(1400, 1500)], [], book, [
            (0, "base", 600, 30), (0, "late", 900, 10), (1, "base", 600, 30), (1, "late", 900, 30)])

    def test_unlike_names_of_one_sort_are_one_line(self):
        book = ruled(rule("a", 1, "late", ("clock", 0, 700)), rule("b", 1, "late", ("clock", 600, 800)),
                     rule("c", 1, "base", ("clock", 850, 860)))
        self.check([(500, 900)], [], book, [(0, "base", 600, 100), (0, "late", 900, 300)])

    def test_sorts_apart_are_one_line_of_a_day(self):
        book = ruled(rule("noon", 1, "rest", ("clock", 720, 780)), rule("high", 2, "late", ("feast",)))
        self.check([(700, 800), (900, 1000), (2100, 2300)], [], book, [
            (0, "base", 600, 140), (0, "rest", 0, 60), (1, "base", 600, 140), (1, "rest", 0, 60)])
        self.check([(700, 800), (2100, 2300)], [1], book, [
            (0, "base", 600, 40), (0, "rest", 0, 60), (1, "late", 900, 200)])

    def test_rising_by_sorts_not_by_rates(self):
        book = rated(ruled(rule("a", 1, "late", ("clock", 0, 10)), rule("b", 1, "rest", ("clock", 10, 20))),
                     base=9, late=5, rest=7)
        self.check([(0, 30)], [], book, [(0, "base", 9, 10), (0, "late", 5, 10), (0, "rest", 7, 10)])
        # Days as numbers, not as figures.
        self.check([(2 * 1440, 2 * 1440 + 1), (10 * 1440, 10 * 1440 + 1)], [], ruled(),
                   [(2, "base", 600, 1), (10, "base", 600, 1)])

    def test_a_quarrel(self):
        book = ruled(rule("a", 1, "late"), rule("b", 1, "rest", ("clock", 600, 700)))
        self.check([(500, 600), (1400, 1500)], [], book, [(0, "late", 900, 140), (1, "late", 900, 60)])
        self.check([(500, 601)], [], book, (("a", "b"), 600))
        with self.assertRaises(Quarrel) as caught:
            due([(500, 520), (590, 650)], [], book)
        self.assertEqual((caught.exception.names, caught.exception.minute), (("a", "b"), 600))
        self.assertEqual(due([(500, 600)], [], book), 90000)

    def test_the_last_days(self):
        self.check([(LAST - 9, LAST + 1)], [], ruled(), [(694443, "base", 600, 10)])

    def test_minute_by_minute(self):
        chance = random.Random(30)
        quarrels = 0
        for _ in range(150):
            book = some_book(chance, *chance.choice([(20, 50, 60), (300, 1500, 1440), (1440, 10080, 1440)]))
            lot = some_lot(chance, chance.choice([200, 9000, 40000]), 8, chance.choice([5, 60, 900]))
            feasts = [chance.randrange(28) for _ in range(chance.randint(0, 9))]
            told = fast_lines(lot, feasts, book)
            self.assertEqual(told, slow_lines(lot, feasts, book))
            if isinstance(told, tuple):
                quarrels += 1
                self.assertEqual(told, fast_sorted_out(lot, feasts, book))
            else:
                rows = slow_sorted_out(lot, feasts, book)
                rates = dict(book[1])
                self.assertEqual(due(lot, feasts, book),
                                 sum(rates[sort] * (behind - first) for first, behind, sort, _ in rows))
                self.assertEqual(due(lot, feasts, book), worth(told))
        self.assertTrue(9 < quarrels < 135, quarrels)


class Due(unittest.TestCase):

    def test_in_sixtieths(self):
        # An hour at 600 coins an hour is 600 coins.
        self.assertEqual(due([(0, 60)], [], ruled()), 600 * 60)
        self.assertEqual(due([(7, 8)], [], ruled()), 600)
        self.assertEqual(due([(7, 8)], [], rated(ruled(), base=1)), 1)
        self.assertEqual(due([(7, 8)], [], rated(ruled(), base=0)), 0)
        self.assertEqual(due([(0, 1440)], [], rated(ruled(), base=10 ** 6)), 1440 * 10 ** 6)
        self.assertEqual(due([], [], ruled()), 0)
        self.assertIs(due([(7, 8)], [], ruled()).__class__, int)


class Worth(unittest.TestCase):

    def test_worth(self):
        self.assertEqual(worth([]), 0)
        self.assertEqual(worth([(0, "base", 600, 4)]), 2400)
        self.assertEqual(worth([(0, "base", 600, 4), (0, "late", 900, 1), (9, "rest", 0, 70)]), 3300)
        self.assertEqual(worth([(0, "base", 600, -4), (0, "late", 900, 1)]), -1500)
        self.assertEqual(worth([(5, "base", 10 ** 6, 1440)]), 1440 * 10 ** 6)


class Difference(unittest.TestCase):

    def test_known(self):
        one, more, other = (0, "base", 600, 4), (0, "base", 600, 9), (0, "base", 700, 4)
        late = (1, "late", 900, 5)
        for lists, wanted in (
                (([], []), []), (([one], [one]), []), (([], [one]), [one]), (([one], []), [(0, "base", 600, -4)]),
                (([one], [more]), [(0, "base", 600, 5)]), (([more], [one]), [(0, "base", 600, -5)]),
                # Of one day and sort a line for each rate.
                (([one], [other]), [(0, "base", 600, -4), (0, "base", 700, 4)]),
                (([other], [one]), [(0, "base", 600, 4), (0, "base", 700, -4)]),
                (([one, other], [more]), [(0, "base", 600, 5), (0, "base", 700, -4)]),
                (([one, late], [more, late]), [(0, "base", 600, 5)]),
                (([late], [one]), [one, (1, "late", 900, -5)]), (([one], [late]), [(0, "base", 600, -4), late]),
                # Lists with minutes below 0, too.
                (([(0, "base", 600, -4)], []), [one]), (([], [(0, "base", 600, -4)]), [(0, "base", 600, -4)]),
                (([(0, "base", 600, -4)], [(0, "base", 600, -4)]), []),
                (([(0, "base", 600, -4)], [one]), [(0, "base", 600, 8)]),
                # By days, then by sorts, then by rates.
                (([], [(2, "b", 1, 1), (10, "a", 1, 1)]), [(2, "b", 1, 1), (10, "a", 1, 1)]),
                (([(2, "b", 9, 1)], [(2, "a", 10, 1), (2, "b", 10, 1)]),
                 [(2, "a", 10, 1), (2, "b", 9, -1), (2, "b", 10, 1)])):
            with self.subTest(lists):
                self.assertEqual(difference(*lists), wanted)

    def test_what_the_others_have_more(self):
        chance = random.Random(31)
        for _ in range(500):
            rows, others = some_lines(chance), some_lines(chance)
            more = difference(rows, others)
            self.assertEqual(more, sorted(more))
            keys = [row[:3] for row in more]
            self.assertEqual(len(set(keys)), len(keys))
            have = [{row[:3]: row[3] for row in each} for each in (rows, others, more)]
            for key in set(have[0]) | set(have[1]) | set(have[2]):
                self.assertEqual(have[1].get(key, 0) - have[0].get(key, 0), have[2].get(key, 0))
            self.assertTrue(all(row[3] != 0 for row in more))
            self.assertEqual(worth(more), worth(others) - worth(rows))
            self.assertEqual(difference(others, rows), [(*row[:3], -row[3]) for row in more])
            self.assertEqual(difference(rows, rows), [])

    def test_in_any_lot(self):
        chance = random.Random(32)
        for _ in range(50):
            book = ruled(*some_book(chance, 60, 200, 1440)[2][:1])
            one, other = some_lot(chance, 9000, 6, 400), some_lot(chance, 9000, 6, 400)
            rows, others = lines(one, [1], book), lines(other, [2], book)
            self.assertEqual(difference([], rows), rows)
            self.assertEqual(worth(difference(rows, others)), due(other, [2], book) - due(one, [1], book))


class NothingChanged(unittest.TestCase):

    def test_what_is_handed_in_and_what_is_told(self):
        lot, feasts = [(60, 161), (1500, 1600)], [1, 0, 1]
        book = ruled(rule("long", 1, "late", ("day", 100)), rule("high", 2, "rest", ("feast",), ("day", 50)))
        kept = copy.deepcopy((lot, feasts, book))
        rows = lines(lot, feasts, book)
        wanted = list(rows)
        self.assertEqual([row.__class__ for row in rows], [tuple] * len(rows))
        rows.append("more")
        rows[0] = "other"
        self.assertEqual(due(lot, feasts, book), worth(wanted))
        self.assertEqual((lot, feasts, book), kept)
        self.assertEqual(lines(lot, feasts, book), wanted)
        rows = lines(lot, feasts, book)
        lot.clear()
        feasts.clear()
        self.assertEqual(rows, wanted)

    def test_lists_of_lines(self):
        one, other = [(0, "base", 600, 4), (1, "base", 600, 4)], [(1, "base", 600, -2)]
        kept = copy.deepcopy((one, other))
        more = difference(one, other)
        wanted = list(more)
        self.assertEqual(more, [(0, "base", 600, -4), (1, "base", 600, -6)])
        worth(one)
        more.clear()
        self.assertEqual((one, other), kept)
        self.assertEqual(difference(one, other), wanted)
        same = difference([], one)
        same.append("more")
        self.assertEqual(one, kept[0])

    def test_a_quarrel_changes_nothing(self):
        lot, feasts, book = [(5, 9)], [0], ruled(rule("a", 1, "late"), rule("b", 1, "rest"))
        kept = copy.deepcopy((lot, feasts, book))
        for _ in range(2):
            self.assertEqual(fast_lines(lot, feasts, book), (("a", "b"), 5))
        self.assertEqual((lot, feasts, book), kept)


class ToldSoon(unittest.TestCase):

    def test_many_minutes_and_eight_rules(self):
        book, feasts = ruled(*BUSY_RULES), dict.fromkeys(range(60))
        self.assertEqual(lines(BUSY_LOT, list(feasts), book), slow_lines(BUSY_LOT, feasts, book))
        self.assertEqual(len(lines([(0, 86400)], [], ruled())), 60)

    def test_far_apart(self):
        lot = [(1440 * day + 5, 1440 * day + 9) for day in range(0, 694443, 11770)]
        rows = lines(lot, [0], ruled(rule("a", 1, "late", ("week", 3))))
        self.assertEqual(len(rows), 2 * len(lot))
        self.assertEqual(worth(rows), len(lot) * (3 * 600 + 900))
        self.assertEqual(difference(rows, rows[:2])[0], (11770, "base", 600, -3))


if __name__ == "__main__":
    unittest.main()
