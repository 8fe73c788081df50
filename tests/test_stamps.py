"""Points [10], [11] and what [3] says of them: stamps, stretches and guessed bounds."""

import copy
import random
import unittest

from hourcoin.plans import is_plan
from hourcoin.stamps import in_order, is_stamp, stretches
from tests.test_plans import slow_shifts_on, some_plan
from tests.things import odd_things, spoiled

LAST = 999999359
LAST_DAY = 694443
EMPTY = ((), ())
# On day 1 08:00 to 12:00 and 13:00 to 17:00, on day 2 22:00 to 06:00.
PLAN = ((), ((1, ((480, 240), (780, 240))), (2, ((1320, 480),))))


def single(day, *shifts):
    """A plan of these shifts on a single day."""
    return (), ((day, shifts),)


def slow_shifts_with(plan, minute):
    """All shifts that have a minute, rising, by the days around it."""
    days = range(max(minute // 1440 - 3, 0), min(minute // 1440 + 3, LAST_DAY) + 1)
    shifts = sorted(shift for day in days for shift in slow_shifts_on(plan, day))
    return [shift for shift in shifts if minute in range(*shift)]


def slow_stretches(stamps, plan, most):
    """What points [10] and [11] word, stamp by stamp."""
    def guessed_end(since):
        shifts = slow_shifts_with(plan, since)
        return shifts[0][1] if shifts else since + most

    def guessed_begin(minute):
        days = range(max(minute // 1440 - 3, 0), min(minute // 1440 + 3, LAST_DAY) + 1)
        shifts = [shift for day in days for shift in slow_shifts_on(plan, day)
                  if shift[1] == minute or shift[0] < minute < shift[1]]
        return min(shifts)[0] if shifts else max(minute - most, 0)

    told, inside, since = [], False, 0
    for minute, order, word in sorted({(at, ["out", "in"].index(word), word) for word, at in stamps}):
        if word == "in":
            if inside:
                told.append((since, min(guessed_end(since), minute), "end"))
            inside = True
        elif inside and minute - since <= 1440:
            told.append((since, minute, "told"))
            inside = False
        else:
            if inside:
                told.append((since, guessed_end(since), "end"))
                since = guessed_end(since)
            begin = max(guessed_begin(minute), since)
            if begin < minute:
                told.append((begin, minute, "begin"))
            inside = False
        since = minute
    if inside:
        told.append((since, guessed_end(since), "end"))
    return told


def some_stamps(chance, most, many):
    """Up to so many stamps below a minute."""
    return [(chance.choice(["in", "out"]), chance.randrange(most))
            for _ in range(chance.randint(0, many))]


class IsStamp(unittest.TestCase):

    def test_stamps(self):
        for stamp in (("in", 0), ("out", 0), ("in", LAST), ("out", LAST), ("in", 17705)):
            self.assertIs(is_stamp(stamp), True)

    def test_numbers_at_a_bound_and_one_beyond(self):
        for minute in (-1, LAST + 1, 10 ** 30, -(10 ** 30)):
            for word in ("in", "out"):
                self.assertIs(is_stamp((word, minute)), False)

    def test_words_one_letter_otherwise(self):
        for word in ("", "i", "n", "on", "In", "IN", "inn", " in", "in ", "in\n", "ou", "out ", "Out",
                     "outt", "at", "io", "inout"):
            with self.subTest(word):
                self.assertIs(is_stamp((word, 5)), False)

    def test_parts_left_out_too_many_or_of_another_kind(self):
        for thing in (("in",), ("out", 5, 5), (5, "in"), ("in", "5"), ("in", ()), ((), 5), ("in", [5]),
                      ("in", True), ("out", False), ("in", None), (None, 5), (("in", 5),), [("in", 5)],
                      ["in", 5], "in 5", {"in": 5}, ("in", "out"), (["in"], 5), ({"in": 5}, 5)):
            with self.subTest(thing):
                self.assertIs(is_stamp(thing), False)
        for stamp in (("in", 7), ("out", 1)):
            for thing in spoiled(stamp):
                with self.subTest(thing):
                    self.assertIs(is_stamp(thing), False)

    def test_anything(self):
        for thing in odd_things():
            self.assertIs(is_stamp(thing), False)
            self.assertIs(is_stamp((thing, 5)), False)
            if thing not in (0, 1, 1440) or isinstance(thing, bool):
                self.assertIs(is_stamp(("in", thing)), False)


class InOrder(unittest.TestCase):

    def test_by_minutes_each_once_of_one_minute_the_out_first(self):
        for stamps, order in (
                ([], []),
                ([("in", 5)], [("in", 5)]),
                ([("out", 9), ("in", 5)], [("in", 5), ("out", 9)]),
                ([("in", 5), ("out", 5)], [("out", 5), ("in", 5)]),
                ([("out", 5), ("in", 5)], [("out", 5), ("in", 5)]),
                ([("in", 10), ("in", 9), ("in", 100)], [("in", 9), ("in", 10), ("in", 100)]),
                ([("in", 5), ("out", 7), ("in", 5), ("out", 7), ("in", 5)], [("in", 5), ("out", 7)]),
                ([("in", 7), ("in", 0), ("out", 7), ("out", LAST)],
                 [("in", 0), ("out", 7), ("in", 7), ("out", LAST)])):
            with self.subTest(stamps):
                self.assertEqual(in_order(stamps), order)

    def test_nothing_changed_and_a_new_list_of_stamps(self):
        stamps = [("out", 9), ("in", 5), ("out", 9)]
        told = in_order(stamps)
        self.assertEqual(stamps, [("out", 9), ("in", 5), ("out", 9)])
        self.assertTrue(all(is_stamp(stamp) for stamp in told))
        told.append("more")
        told[0] = "other"
        self.assertEqual(in_order(stamps), [("in", 5), ("out", 9)])
        self.assertEqual(stamps, [("out", 9), ("in", 5), ("out", 9)])
        ready = [("in", 5)]
        self.assertIsNot(in_order(ready), ready)


class Stretches(unittest.TestCase):

    def check(self, stamps, plan, most, wanted):
        with self.subTest(stamps=stamps, plan=plan, most=most):
            self.assertEqual(stretches(stamps, plan, most), wanted)
            self.assertEqual(slow_stretches(stamps, plan, most), wanted)

    def test_both_told(self):
        self.check([], EMPTY, 60, [])
        self.check([("in", 5), ("out", 9)], EMPTY, 60, [(5, 9, "told")])
        self.check([("in", 1920), ("out", 2000), ("in", 2100), ("out", 2500)], PLAN, 60,
                   [(1920, 2000, "told"), (2100, 2500, "told")])
        self.check([("in", 0), ("out", 1)], EMPTY, 1, [(0, 1, "told")])
        self.check([("in", LAST - 1), ("out", LAST)], EMPTY, 1, [(LAST - 1, LAST, "told")])

    def test_out_and_in_again_of_one_minute(self):
        self.check([("in", 5), ("in", 9), ("out", 9), ("out", 20)], EMPTY, 60,
                   [(5, 9, "told"), (9, 20, "told")])
        self.check([("in", 9), ("out", 9)], EMPTY, 4, [(5, 9, "begin"), (9, 13, "end")])

    def test_an_out_just_a_day_behind_its_in_and_one_more(self):
        self.check([("in", 100), ("out", 1540)], EMPTY, 60, [(100, 1540, "told")])
        self.check([("in", 100), ("out", 1541)], EMPTY, 60, [(100, 160, "end"), (1481, 1541, "begin")])
        self.check([("in", 100), ("out", LAST)], EMPTY, 60,
                   [(100, 160, "end"), (LAST - 60, LAST, "begin")])

    def test_forgotten_out_by_a_shift(self):
        # Day 1 begins at 1440: shifts from 1920 to 2160 and from 2220 to 2460.
        self.check([("in", 1920)], PLAN, 60, [(1920, 2160, "end")])
        self.check([("in", 2000)], PLAN, 60, [(2000, 2160, "end")])
        self.check([("in", 2159)], PLAN, 60, [(2159, 2160, "end")])
        # A shift that ends just there has not that minute any more.
        self.check([("in", 2160)], PLAN, 30, [(2160, 2190, "end")])
        self.check([("in", 1919)], PLAN, 30, [(1919, 1949, "end")])
        self.check([("in", 2000), ("in", 2300)], PLAN, 60, [(2000, 2160, "end"), (2300, 2460, "end")])

    def test_forgotten_in_by_a_shift(self):
        self.check([("out", 2160)], PLAN, 60, [(1920, 2160, "begin")])
        self.check([("out", 2000)], PLAN, 60, [(1920, 2000, "begin")])
        self.check([("out", 1921)], PLAN, 60, [(1920, 1921, "begin")])
        # A shift that begins just there isn't the one that the hand went out of.
        self.check([("out", 1920)], PLAN, 60, [(1860, 1920, "begin")])
        self.check([("out", 2161)], PLAN, 60, [(2101, 2161, "begin")])

    def test_shifts_that_run_over_midnight(self):
        # Day 2 begins at 2880: a shift from 4200 to 4680, day 3 begins at 4320.
        self.check([("in", 4400)], PLAN, 60, [(4400, 4680, "end")])
        self.check([("out", 4400)], PLAN, 60, [(4200, 4400, "begin")])
        self.check([("out", 4320)], PLAN, 60, [(4200, 4320, "begin")])
        self.check([("out", 4680)], PLAN, 60, [(4200, 4680, "begin")])
        self.check([("in", 4680)], PLAN, 60, [(4680, 4740, "end")])

    def test_a_day_long_from_the_last_minute_of_a_day(self):
        plan = single(1, (1439, 1440))
        self.check([("in", 4318)], plan, 60, [(4318, 4319, "end")])
        self.check([("in", 4319)], plan, 60, [(4319, 4379, "end")])
        self.check([("in", 2879)], plan, 60, [(2879, 4319, "end")])
        self.check([("out", 4319)], plan, 60, [(2879, 4319, "begin")])
        self.check([("out", 4320)], plan, 60, [(4260, 4320, "begin")])
        self.check([("out", 2880)], plan, 60, [(2879, 2880, "begin")])
        self.check([("out", 2879)], plan, 60, [(2819, 2879, "begin")])

    def test_a_shift_that_ends_with_its_day(self):
        plan = single(1, (1380, 60))
        self.check([("out", 2880)], plan, 7, [(2820, 2880, "begin")])
        self.check([("in", 2880)], plan, 7, [(2880, 2887, "end")])

    def test_the_least_of_shifts_that_share_minutes(self):
        plan = single(1, (100, 60), (100, 90), (120, 20), (150, 100))
        self.check([("in", 1570)], plan, 9, [(1570, 1600, "end")])
        self.check([("in", 1600)], plan, 9, [(1600, 1630, "end")])
        self.check([("in", 1630)], plan, 9, [(1630, 1690, "end")])
        self.check([("out", 1580)], plan, 9, [(1540, 1580, "begin")])
        self.check([("out", 1630)], plan, 9, [(1540, 1630, "begin")])
        self.check([("out", 1631)], plan, 9, [(1590, 1631, "begin")])
        # A shift of the day ahead goes first, though it ends later.
        plan = ((), ((1, ((1400, 200),)), (2, ((10, 20),))))
        self.check([("in", 2895)], plan, 9, [(2895, 3040, "end")])
        self.check([("out", 2910)], plan, 9, [(2840, 2910, "begin")])

    def test_a_guess_never_passes_a_neighbour(self):
        self.check([("in", 2000), ("in", 2100)], PLAN, 60, [(2000, 2100, "end"), (2100, 2160, "end")])
        self.check([("in", 5), ("in", 6)], EMPTY, 60, [(5, 6, "end"), (6, 66, "end")])
        self.check([("in", 5), ("in", 65)], EMPTY, 60, [(5, 65, "end"), (65, 125, "end")])
        self.check([("in", 5), ("in", 66)], EMPTY, 60, [(5, 65, "end"), (66, 126, "end")])
        self.check([("in", 1900), ("out", 1950), ("out", 2000)], PLAN, 60,
                   [(1900, 1950, "told"), (1950, 2000, "begin")])
        self.check([("out", 5), ("out", 30)], EMPTY, 60, [(0, 5, "begin"), (5, 30, "begin")])
        self.check([("in", 0), ("out", 1441)], EMPTY, 1440, [(0, 1440, "end"), (1440, 1441, "begin")])
        # From day 0 08:00 a day long, the out 1 minute more than a day behind the in.
        self.check([("in", 480), ("out", 1921)], single(0, (480, 1440)), 30,
                   [(480, 1920, "end"), (1920, 1921, "begin")])
        self.check([("in", 480), ("out", 1921)], single(0, (480, 1440), (490, 1431)), 30,
                   [(480, 1920, "end"), (1920, 1921, "begin")])

    def test_an_out_at_minute_0(self):
        self.check([("out", 0)], EMPTY, 60, [])
        self.check([("out", 0), ("in", 0)], EMPTY, 60, [(0, 60, "end")])
        self.check([("out", 0), ("out", 7)], EMPTY, 60, [(0, 7, "begin")])
        self.check([("out", 0)], single(0, (0, 1440)), 60, [])
        self.check([("out", 1)], EMPTY, 60, [(0, 1, "begin")])
        self.check([("in", 0), ("in", 1)], EMPTY, 60, [(0, 1, "end"), (1, 61, "end")])

    def test_most_at_its_bounds(self):
        self.check([("in", 5000)], EMPTY, 1, [(5000, 5001, "end")])
        self.check([("in", 5000)], EMPTY, 1440, [(5000, 6440, "end")])
        self.check([("out", 5000)], EMPTY, 1, [(4999, 5000, "begin")])
        self.check([("out", 5000)], EMPTY, 1440, [(3560, 5000, "begin")])
        self.check([("out", 1439)], EMPTY, 1440, [(0, 1439, "begin")])

    def test_the_last_days_and_bounds_beyond(self):
        self.check([("in", LAST)], EMPTY, 1440, [(LAST, LAST + 1440, "end")])
        plan = (((0, tuple((day, 1439, 1440) for day in range(7))),), ())
        self.check([("in", LAST)], plan, 60, [(LAST, LAST + 1440, "end")])
        self.check([("in", LAST - 1)], plan, 60, [(LAST - 1, LAST, "end")])
        self.check([("out", LAST)], plan, 60, [(LAST - 1440, LAST, "begin")])

    def test_a_guess_gives_way_where_it_is_told(self):
        stamps = [("in", 2000)]
        self.check(stamps, PLAN, 60, [(2000, 2160, "end")])
        self.check([*stamps, ("out", 2200)], PLAN, 60, [(2000, 2200, "told")])
        self.check([("out", 2200)], PLAN, 60, [(2140, 2200, "begin")])
        self.check([("out", 2200), ("in", 1800)], PLAN, 60, [(1800, 2200, "told")])

    def test_in_whatever_order_and_however_often(self):
        chance = random.Random(10)
        for _ in range(400):
            plan, most = some_plan(chance), chance.randint(1, 1440)
            stamps = some_stamps(chance, 8000, 12)
            wanted = stretches(stamps, plan, most)
            for _ in range(3):
                again = [*stamps, *chance.choices(stamps, k=5)] if stamps else []
                chance.shuffle(again)
                self.assertEqual(stretches(again, plan, most), wanted)

    def test_stamp_by_stamp(self):
        chance = random.Random(11)
        for _ in range(1500):
            plan = some_plan(chance)
            self.assertTrue(is_plan(plan))
            most = chance.choice([1, 30, 480, 1440])
            stamps = some_stamps(chance, chance.choice([30, 3000, 20000]), 10)
            told = stretches(stamps, plan, most)
            self.assertEqual(told, slow_stretches(stamps, plan, most))
            for one, other in zip(told, told[1:]):
                self.assertLessEqual(one[1], other[0])
            for first, end, _ in told:
                self.assertTrue(0 <= first < end)

    def test_nothing_changed_and_a_new_list(self):
        stamps = [("out", 2200), ("in", 1800), ("in", 5000)]
        args = (stamps, PLAN, 60)
        kept = copy.deepcopy(args)
        told = stretches(*args)
        wanted = list(told)
        self.assertTrue(all(row.__class__ is tuple for row in told))
        told.append("more")
        told[0] = "other"
        self.assertEqual(args, kept)
        self.assertEqual(stretches(*args), wanted)
        told = stretches(*args)
        stamps.clear()
        self.assertEqual(told, wanted)
        stretches([], EMPTY, 1).append("more")
        self.assertEqual(stretches([], EMPTY, 1), [])


class ToldSoon(unittest.TestCase):

    def test_many_stamps_and_a_long_plan(self):
        shifts = tuple((day, clock, 90) for day in range(7) for clock in range(0, 1440, 10))
        plan = (tuple((7 * day, shifts) for day in range(2000)), tuple((day, ()) for day in range(60, 9000)))
        stamps = [("in", 2 * at) for at in range(40000)]
        told = stretches(stamps, plan, 60)
        self.assertEqual(len(told), 40000)
        self.assertEqual(told[:2], [(0, 2, "end"), (2, 4, "end")])

    def test_far_apart(self):
        stamps = [("out", LAST), ("in", 0), ("in", 500000000)]
        self.assertEqual(stretches(stamps, EMPTY, 60), [
            (0, 60, "end"), (500000000, 500000060, "end"), (LAST - 60, LAST, "begin")])


if __name__ == "__main__":
    unittest.main()
