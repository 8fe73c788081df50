"""Point [18] and what [3] says of it: counted minutes, their cases and their sorts."""

import copy
import random
import unittest

from hourcoin.cases import is_case, row_of, sort_in
from hourcoin.errors import Quarrel
from hourcoin.sorting import case_at, sorted_out
from tests.test_books import ruled
from tests.test_cases import rule, slow_sort_in, some_book, some_case
from tests.test_lots import lot_by_minutes, minutes_of

LAST = 999999359
# Eight rules of four conditions each, and each second minute of sixty days.
BUSY_RULES = tuple(rule(name, at, "late", ("clock", 100 * at, 1439 - 50 * at), ("days", tuple(range(7))),
                        ("day", 20 * at + 1), ("week", 300 * at + 1)) for at, name in enumerate("abcdefgh"))
BUSY_LOT = [(2 * at, 2 * at + 1) for at in range(43200)]


def slow_cases(lot, feasts):
    """The case of each minute of a lot, counted minute by minute."""
    cases, weeks, days = {}, {}, {}
    for minute in sorted(minutes_of(lot)):
        day = minute // 1440
        week = day // 7
        cases[minute] = (weeks.get(week, 0), days.get(day, 0), minute % 10080, day in feasts)
        weeks[week] = weeks.get(week, 0) + 1
        days[day] = days.get(day, 0) + 1
    return cases


def slow_sorted_out(lot, feasts, book):
    """What point [18] words, minute by minute; of a quarrel the names and the minute."""
    rows = []
    for minute, case in slow_cases(lot, feasts).items():
        sort, name = slow_sort_in(book, case)
        if sort == "quarrel":
            return name, minute
        if rows and rows[-1][1:] == [minute, sort, name]:
            rows[-1][1] = minute + 1
        else:
            rows.append([minute, minute + 1, sort, name])
    return [tuple(row) for row in rows]


def fast_sorted_out(lot, feasts, book):
    """What is told, or of a quarrel the names and the minute."""
    try:
        return sorted_out(lot, feasts, book)
    except Quarrel as quarrel:
        return quarrel.names, quarrel.minute


def some_lot(chance, most, many, long):
    """A lot of so many stretches at the most, perhaps of minutes far apart."""
    firsts = [chance.randrange(most) for _ in range(chance.randint(0, many))]
    return lot_by_minutes(minutes_of([(first, first + chance.randint(1, long)) for first in firsts]))


class CaseAt(unittest.TestCase):

    def test_ordinary(self):
        lot = [(60, 100), (1500, 1600), (2000, 3000), (11000, 11010)]
        for minute, feasts, case in (
                (60, [], (0, 0, 60, False)), (99, [], (39, 39, 99, False)), (60, [0], (0, 0, 60, True)),
                (1500, [0], (40, 0, 1500, False)), (1500, [5, 1, 0], (40, 0, 1500, True)),
                (1599, [], (139, 99, 1599, False)), (2000, [], (140, 100, 2000, False)),
                (2879, [2], (1019, 979, 2879, False)), (2880, [2], (1020, 0, 2880, True)),
                (2999, [2], (1139, 119, 2999, True)), (11000, [7, 7], (0, 0, 920, True)),
                (11009, [0], (9, 9, 929, False))):
            with self.subTest(minute):
                self.assertEqual(case_at(lot, feasts, minute), case)
                self.assertTrue(is_case(case))

    def test_counts_begin_anew_with_each_day_and_each_week(self):
        lot = [(0, 20160)]
        for minute in (0, 1439, 1440, 8639, 8640, 10079, 10080, 10081, 11519, 11520, 20159):
            case = (minute % 10080, minute % 1440, minute % 10080, False)
            self.assertEqual(case_at(lot, [], minute), case)

    def test_the_last_minute(self):
        lot = [(5, 9), (LAST - 1, LAST + 1)]
        self.assertEqual(case_at(lot, [694443], LAST), (1, 1, LAST % 10080, True))
        self.assertEqual(case_at(lot, [694442], LAST - 1), (0, 0, (LAST - 1) % 10080, False))

    def test_minute_by_minute(self):
        chance = random.Random(16)
        for _ in range(100):
            lot = some_lot(chance, 30000, 8, 300)
            feasts = [chance.randrange(21) for _ in range(5)]
            for minute, case in slow_cases(lot, feasts).items():
                if minute % 7 == 0:
                    self.assertEqual(case_at(lot, feasts, minute), case)
                    self.assertTrue(is_case(case_at(lot, feasts, minute)))

    def test_the_row_of_a_case(self):
        chance = random.Random(17)
        for _ in range(200):
            case = some_case(chance)
            lot, feasts = row_of(case)
            cases = slow_cases(lot, feasts)
            *others, last = [cases[minute] for minute in sorted(cases)]
            self.assertEqual(last, case)
            self.assertTrue(all(other < case for other in others))
            self.assertEqual(case_at(lot, feasts, lot[-1][1] - 1), case)


class SortedOut(unittest.TestCase):

    def check(self, lot, feasts, book, wanted):
        with self.subTest(lot=lot, feasts=feasts, book=book):
            self.assertEqual(fast_sorted_out(lot, feasts, book), wanted)
            self.assertEqual(slow_sorted_out(lot, feasts, book), wanted)

    def test_no_rules_and_no_minutes(self):
        self.check([], [], ruled(), [])
        self.check([], [3], ruled(rule("a", 1, "late"), rule("b", 1, "rest")), [])
        self.check([(5, 9)], [0], ruled(), [(5, 9, "base", None)])
        self.check([(5, 9), (20, 30000)], [], ruled(), [(5, 9, "base", None), (20, 30000, "base", None)])

    def test_alike_ones_are_one_over_days_and_weeks(self):
        self.check([(1400, 1500)], [], ruled(), [(1400, 1500, "base", None)])
        self.check([(10000, 10100)], [], ruled(rule("a", 1, "late")), [(10000, 10100, "late", "a")])
        self.check([(0, 30240)], [], ruled(), [(0, 30240, "base", None)])

    def test_clocks_over_midnight(self):
        book = ruled(rule("night", 1, "late", ("clock", 1320, 360)))
        self.check([(1300, 1900)], [], book, [
            (1300, 1320, "base", None), (1320, 1800, "late", "night"), (1800, 1900, "base", None)])
        self.check([(1320, 1321), (1799, 1801)], [], book, [
            (1320, 1321, "late", "night"), (1799, 1800, "late", "night"), (1800, 1801, "base", None)])

    def test_a_clock_condition_that_ends_or_begins_at_0(self):
        self.check([(1430, 1450)], [], ruled(rule("a", 1, "late", ("clock", 1435, 0))), [
            (1430, 1435, "base", None), (1435, 1440, "late", "a"), (1440, 1450, "base", None)])
        self.check([(1430, 1450)], [], ruled(rule("a", 1, "late", ("clock", 0, 5))), [
            (1430, 1440, "base", None), (1440, 1445, "late", "a"), (1445, 1450, "base", None)])

    def test_unlike_names_of_one_sort(self):
        book = ruled(rule("a", 1, "late", ("clock", 0, 700)), rule("b", 1, "late", ("clock", 600, 800)))
        self.check([(500, 900)], [], book, [
            (500, 700, "late", "a"), (700, 800, "late", "b"), (800, 900, "base", None)])
        book = ruled(rule("a", 1, "base", ("clock", 600, 700)))
        self.check([(500, 900)], [], book, [
            (500, 600, "base", None), (600, 700, "base", "a"), (700, 900, "base", None)])

    def test_days_and_feasts(self):
        book = ruled(rule("sun", 1, "late", ("days", (0, 6))), rule("high", 2, "rest", ("feast",)))
        self.check([(8600, 11600)], [7], book, [
            (8600, 8640, "base", None), (8640, 10080, "late", "sun"), (10080, 11520, "rest", "high"),
            (11520, 11600, "base", None)])
        for feasts in ([7, 3], [3, 7], [3, 7, 7, 3, 500000]):
            self.check([(8600, 11600)], feasts, ruled(book[2][1]), [
                (8600, 10080, "base", None), (10080, 11520, "rest", "high"), (11520, 11600, "base", None)])
        self.check([(1400, 1500)], [1, 0], ruled(book[2][1]), [(1400, 1500, "rest", "high")])

    def test_counts_of_a_day(self):
        book = ruled(rule("long", 1, "late", ("day", 100)))
        self.check([(60, 160)], [], book, [(60, 160, "base", None)])
        self.check([(60, 161)], [], book, [(60, 160, "base", None), (160, 161, "late", "long")])
        self.check([(60, 110), (200, 300)], [], book, [
            (60, 110, "base", None), (200, 250, "base", None), (250, 300, "late", "long")])
        # Anew with each day.
        self.check([(1300, 1600)], [], book, [
            (1300, 1400, "base", None), (1400, 1440, "late", "long"), (1440, 1540, "base", None),
            (1540, 1600, "late", "long")])

    def test_counts_of_a_week(self):
        book = ruled(rule("long", 1, "late", ("week", 2000)))
        self.check([(0, 1000), (1440, 2600), (9000, 10100)], [], book, [
            (0, 1000, "base", None), (1440, 2440, "base", None), (2440, 2600, "late", "long"),
            (9000, 10080, "late", "long"), (10080, 10100, "base", None)])
        self.check([(0, 30000)], [], book, [
            (0, 2000, "base", None), (2000, 10080, "late", "long"), (10080, 12080, "base", None),
            (12080, 20160, "late", "long"), (20160, 22160, "base", None), (22160, 30000, "late", "long")])

    def test_counts_at_their_bounds(self):
        self.check([(0, 1442)], [], ruled(rule("a", 1, "late", ("day", 1))), [
            (0, 1, "base", None), (1, 1440, "late", "a"), (1440, 1441, "base", None), (1441, 1442, "late", "a")])
        self.check([(0, 4000)], [], ruled(rule("a", 1, "late", ("day", 1440))), [(0, 4000, "base", None)])
        self.check([(0, 1441)], [], ruled(rule("a", 1, "late", ("day", 1439))), [
            (0, 1439, "base", None), (1439, 1440, "late", "a"), (1440, 1441, "base", None)])
        self.check([(10000, 10083)], [], ruled(rule("a", 1, "late", ("week", 1))), [
            (10000, 10001, "base", None), (10001, 10080, "late", "a"), (10080, 10081, "base", None),
            (10081, 10083, "late", "a")])
        self.check([(0, 20160)], [], ruled(rule("a", 1, "late", ("week", 10080))), [(0, 20160, "base", None)])
        self.check([(0, 10081)], [], ruled(rule("a", 1, "late", ("week", 10079))), [
            (0, 10079, "base", None), (10079, 10080, "late", "a"), (10080, 10081, "base", None)])

    def test_ranks_at_their_bounds(self):
        book = ruled(rule("a", 0, "late"), rule("b", 99, "rest", ("clock", 10, 20)))
        self.check([(5, 25)], [], book, [(5, 10, "late", "a"), (10, 20, "rest", "b"), (20, 25, "late", "a")])

    def test_a_quarrel_at_the_first_minute_and_amid_a_stretch(self):
        late, rest = rule("a", 1, "late"), rule("b", 1, "rest", ("clock", 600, 700))
        self.check([(600, 650)], [], ruled(late, rest), (("a", "b"), 600))
        self.check([(650, 660), (680, 690)], [], ruled(late, rest), (("a", "b"), 650))
        self.check([(500, 650)], [], ruled(late, rest), (("a", "b"), 600))
        self.check([(500, 590), (595, 601)], [], ruled(late, rest), (("a", "b"), 600))
        self.check([(500, 600), (700, 800)], [], ruled(late, rest), [(500, 600, "late", "a"), (700, 800, "late", "a")])
        by_count = rule("b", 1, "rest", ("day", 50), ("clock", 600, 700))
        self.check([(580, 700)], [], ruled(late, by_count), (("a", "b"), 630))
        self.check([(1430, 3000)], [], ruled(late, by_count), (("a", "b"), 2040))
        # Two quarrels of unlike rules: the first one is told.
        book = ruled(rule("x", 1, "late", ("clock", 0, 9)), rule("y", 1, "rest", ("clock", 8, 20)),
                     rule("z", 1, "base", ("clock", 6, 9)))
        self.check([(0, 20)], [], book, (("x", "z"), 6))

    def test_a_greater_rank_hides_a_quarrel(self):
        book = ruled(rule("a", 1, "late"), rule("b", 1, "rest"), rule("c", 2, "base", ("clock", 0, 600)))
        self.check([(0, 600)], [], book, [(0, 600, "base", "c")])
        self.check([(0, 601)], [], book, (("a", "b"), 600))

    def test_the_last_days(self):
        book = ruled(rule("a", 1, "late", ("clock", 1400, 5)), rule("b", 2, "rest", ("feast",), ("day", 3)))
        self.check([(LAST - 99, LAST + 100)], [694443], book, [
            (999999260, 999999263, "base", None), (999999263, 999999360, "rest", "b"),
            (999999360, 999999365, "late", "a"), (999999365, 999999459, "base", None)])

    def test_minute_by_minute(self):
        chance = random.Random(18)
        quarrels = 0
        for _ in range(300):
            book = some_book(chance, *chance.choice([(20, 50, 60), (300, 1500, 1440), (1440, 10080, 1440)]))
            lot = some_lot(chance, chance.choice([200, 9000, 40000]), 8, chance.choice([5, 60, 900]))
            feasts = [chance.randrange(28) for _ in range(chance.randint(0, 9))]
            told = fast_sorted_out(lot, feasts, book)
            self.assertEqual(told, slow_sorted_out(lot, feasts, book))
            quarrels += told.__class__ is tuple
        self.assertTrue(30 < quarrels < 270, quarrels)

    def test_each_counted_minute_has_just_one_sort(self):
        chance = random.Random(19)
        for _ in range(100):
            book = ruled(*some_book(chance, 60, 200, 1440)[2][:1])
            lot, feasts = some_lot(chance, 20000, 6, 400), [3, 1]
            rows = sorted_out(lot, feasts, book)
            minutes = [minute for first, behind, _, _ in rows for minute in range(first, behind)]
            self.assertEqual(minutes, sorted(minutes_of(lot)))
            for one, other in zip(rows, rows[1:]):
                self.assertTrue(one[1] < other[0] or one[1] == other[0] and one[2:] != other[2:])
            for first, behind, sort, name in rows:
                for minute in (first, behind - 1):
                    self.assertEqual(sort_in(book, case_at(lot, feasts, minute)), (sort, name))


class NothingChanged(unittest.TestCase):

    def test_what_is_handed_in_and_what_is_told(self):
        lot, feasts = [(60, 161), (1500, 1600)], [1, 0, 1]
        book = ruled(rule("long", 1, "late", ("day", 100)), rule("high", 2, "rest", ("feast",), ("day", 50)))
        kept = copy.deepcopy((lot, feasts, book))
        told = sorted_out(lot, feasts, book)
        wanted = list(told)
        self.assertTrue(all(row.__class__ is tuple for row in told))
        told.append("more")
        told[0] = "other"
        case_at(lot, feasts, 1550)
        self.assertEqual((lot, feasts, book), kept)
        self.assertEqual(sorted_out(lot, feasts, book), wanted)
        told = sorted_out(lot, feasts, book)
        lot.clear()
        feasts.clear()
        self.assertEqual(told, wanted)
        self.assertEqual(sorted_out(lot, feasts, book), [])

    def test_a_quarrel_changes_nothing(self):
        lot, feasts, book = [(5, 9)], [0], ruled(rule("a", 1, "late"), rule("b", 1, "rest"))
        kept = copy.deepcopy((lot, feasts, book))
        for _ in range(2):
            self.assertEqual(fast_sorted_out(lot, feasts, book), (("a", "b"), 5))
        self.assertEqual((lot, feasts, book), kept)


class ToldSoon(unittest.TestCase):

    def test_many_minutes_and_eight_rules(self):
        book, feasts = ruled(*BUSY_RULES), dict.fromkeys(range(60))
        self.assertEqual(sorted_out(BUSY_LOT, list(feasts), book), slow_sorted_out(BUSY_LOT, feasts, book))
        self.assertEqual(len(sorted_out([(0, 86400)], [], ruled())), 1)

    def test_far_apart(self):
        lot = [(5, 9), (LAST - 5, LAST)]
        book = ruled(rule("a", 1, "late", ("week", 3)))
        self.assertEqual(sorted_out(lot, [], book), [
            (5, 8, "base", None), (8, 9, "late", "a"), (LAST - 5, LAST - 2, "base", None),
            (LAST - 2, LAST, "late", "a")])


if __name__ == "__main__":
    unittest.main()
