"""Point [9]: a plan held against a lot."""

import copy
import random
import unittest

from hourcoin.held import held
from hourcoin.lots import is_lot
from tests.test_lots import lot_by_minutes, minutes_of
from tests.test_plans import slow_shifts_on, some_plan

LAST_DAY = 694443
EMPTY = ((), ())
# From day 0 on each weekday 0 08:00 to 12:00, each weekday 1 22:00 to 08:00.
WEEKLY = (((0, ((0, 480, 240), (1, 1320, 600))),), ())
# On day 3 a shift of a day from 23:59 on.
LONG = ((), ((3, ((1439, 1440),)),))


def slow_held(plan, lot, first, behind):
    """What point [9] words, minute by minute."""
    worked = minutes_of(lot)
    of_days = minutes_of([part for day in range(first, behind) for part in slow_shifts_on(plan, day)])
    of_any = minutes_of([part for day in range(max(first - 3, 0), behind + 3)
                         for part in slow_shifts_on(plan, day)])
    on_days = {minute for minute in worked if first <= minute // 1440 < behind}
    return lot_by_minutes(of_days - worked), lot_by_minutes(on_days - of_any)


class Held(unittest.TestCase):

    def test_ordinary(self):
        for lot, missing, beyond in (
                ([], [(480, 720)], []),
                ([(480, 720)], [], []),
                ([(500, 800)], [(480, 500)], [(720, 800)]),
                ([(400, 500), (600, 650)], [(500, 600), (650, 720)], [(400, 480)]),
                ([(0, 1440)], [], [(0, 480), (720, 1440)]),
                ([(720, 800)], [(480, 720)], [(720, 800)]),
                ([(470, 480)], [(480, 720)], [(470, 480)])):
            with self.subTest(lot):
                self.assertEqual(held(WEEKLY, lot, 0, 1), (missing, beyond))

    def test_no_shifts(self):
        self.assertEqual(held(EMPTY, [], 0, 60), ([], []))
        self.assertEqual(held(EMPTY, [(5, 9), (2880, 3000)], 0, 2), ([], [(5, 9)]))
        self.assertEqual(held(WEEKLY, [(4000, 5000)], 2, 7), ([], [(4000, 5000)]))

    def test_minutes_that_run_into_the_day_behind_are_missing(self):
        self.assertEqual(held(WEEKLY, [], 1, 2), ([(2760, 3360)], []))
        self.assertEqual(held(WEEKLY, [(2800, 2900), (3300, 3500)], 1, 2),
                         ([(2760, 2800), (2900, 3300)], []))
        self.assertEqual(held(LONG, [], 3, 4), ([(5759, 7199)], []))

    def test_shifts_of_the_day_ahead_are_none_of_these_days(self):
        self.assertEqual(held(WEEKLY, [], 2, 3), ([], []))
        self.assertEqual(held(LONG, [], 4, 5), ([], []))

    def test_in_a_shift_of_the_day_ahead_no_minute_is_beyond(self):
        self.assertEqual(held(WEEKLY, [(2700, 3500)], 2, 3), ([], [(3360, 3500)]))
        self.assertEqual(held(LONG, [(5700, 7300)], 4, 5), ([], [(7199, 7200)]))
        self.assertEqual(held(LONG, [(5700, 7300)], 5, 6), ([], [(7200, 7300)]))
        self.assertEqual(held(LONG, [(5700, 7300)], 3, 4), ([], [(5700, 5759)]))

    def test_minutes_on_these_days_alone_are_beyond(self):
        lot = [(100, 200), (1500, 1600), (2900, 3000)]
        self.assertEqual(held(EMPTY, lot, 0, 3), ([], lot))
        self.assertEqual(held(EMPTY, lot, 1, 2), ([], [(1500, 1600)]))
        self.assertEqual(held(EMPTY, [(1000, 5000)], 1, 3), ([], [(1440, 4320)]))
        self.assertEqual(held(EMPTY, [(1439, 1441)], 1, 2), ([], [(1440, 1441)]))
        self.assertEqual(held(EMPTY, [(1439, 1441)], 0, 1), ([], [(1439, 1440)]))

    def test_shifts_that_share_minutes_or_touch(self):
        plan = ((), ((0, ((60, 60), (60, 90), (100, 60), (160, 5), (1439, 2))), (1, ((0, 30),))))
        self.assertEqual(held(plan, [(150, 162)], 0, 1), ([(60, 150), (162, 165), (1439, 1441)], []))
        self.assertEqual(held(plan, [], 0, 2), ([(60, 165), (1439, 1470)], []))

    def test_the_last_days(self):
        # Day 694,443 has weekday 1; its shift runs beyond the last minute.
        self.assertEqual(held(WEEKLY, [(999997000, 999997010)], LAST_DAY - 1, LAST_DAY + 1),
                         ([(999996960, 999997000), (999997010, 999997200), (999999240, 999999840)], []))
        self.assertEqual(held(WEEKLY, [(999999230, 999999360)], LAST_DAY, LAST_DAY + 1),
                         ([(999999360, 999999840)], [(999999230, 999999240)]))
        self.assertEqual(held(WEEKLY, [(999999230, 999999900)], LAST_DAY, LAST_DAY + 1),
                         ([], [(999999230, 999999240)]))

    def test_minute_by_minute(self):
        chance = random.Random(9)
        for _ in range(60):
            plan = some_plan(chance)
            firsts = [chance.randrange(40 * 1440) for _ in range(12)]
            lot = lot_by_minutes(minutes_of([(at, at + chance.randint(1, 900)) for at in firsts]))
            first = chance.randrange(38)
            behind = first + chance.randint(1, 4)
            told = held(plan, lot, first, behind)
            self.assertEqual(told, slow_held(plan, lot, first, behind))
            self.assertTrue(is_lot(told[0]) and is_lot(told[1]))

    def test_nothing_changed_and_new_lists(self):
        lot = [(500, 800), (2700, 2800)]
        args = (WEEKLY, lot, 0, 2)
        kept = copy.deepcopy(args)
        told = held(*args)
        wanted = copy.deepcopy(told)
        self.assertIs(told.__class__, tuple)
        for one in told:
            one.insert(0, "more")
            one[1:] = []
        self.assertEqual(args, kept)
        self.assertEqual(held(*args), wanted)
        lot.clear()
        self.assertEqual(held(*args), ([(480, 720), (2760, 3360)], []))
        for one in held(EMPTY, [], 0, 1):
            one.append("more")
        self.assertEqual(held(EMPTY, [], 0, 1), ([], []))


class ToldSoon(unittest.TestCase):

    def test_sixty_days_of_many_stretches(self):
        plan = (((0, tuple((day, 0, 1440) for day in range(7))),), ())
        lot = [(2 * at, 2 * at + 1) for at in range(43200)]
        rest = [(2 * at + 1, 2 * at + 2) for at in range(43200)]
        self.assertEqual(held(plan, lot, 0, 60), (rest, []))
        self.assertEqual(held(EMPTY, lot, 0, 60), ([], lot))

    def test_far_apart(self):
        lot = [(5, 9), (999999350, 999999360)]
        self.assertEqual(held(EMPTY, lot, 0, 60), ([], [(5, 9)]))
        self.assertEqual(held(EMPTY, lot, LAST_DAY - 59, LAST_DAY + 1), ([], [(999999350, 999999360)]))


if __name__ == "__main__":
    unittest.main()
