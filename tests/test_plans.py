"""Points [6], [7] and [8]: plans, the shifts of a day, and a plan with others."""

import copy
import random
import unittest

from hourcoin.errors import NoSingle
from hourcoin.plans import is_plan, shifts_on, with_single, with_standing, without_single
from tests.things import odd_things, spoiled

LAST_DAY = 694443
EMPTY = ((), ())
WEEKLY = ((0, 480, 240), (0, 780, 240), (1, 480, 480), (6, 1320, 600))
# From day 10 (weekday 3) on weekly shifts, from day 20 on others, from day 30 on none.
PLAN = (
    ((10, WEEKLY), (20, ((0, 0, 1440), (6, 1439, 1440))), (30, ())),
    ((5, ((60, 30),)), (14, ()), (21, ((0, 1), (0, 2), (1439, 1440)))),
)


def stretches(day, *shifts):
    """The stretches of shifts (clock, length) on a day."""
    return [(1440 * day + clock, 1440 * day + clock + length) for clock, length in shifts]


class IsPlan(unittest.TestCase):

    def test_plans(self):
        for plan in (EMPTY, PLAN, (((0, ()),), ()), ((), ((0, ()),)),
                     (((0, ()), (1, ()), (2, ((3, 4, 5),))), ((7, ((8, 9),)), (8, ()))),
                     (((LAST_DAY, ((6, 1439, 1440),)),), ((LAST_DAY, ((1439, 1440),)),)),
                     (((0, ((0, 0, 1),)),), ((0, ((0, 1),)),)),
                     # shifts may share minutes, and those of a standing and a single a day
                     (((3, ((0, 5, 9), (0, 5, 10), (0, 6, 1), (1, 0, 1))),), ((3, ((5, 9), (5, 10))),)),
                     (tuple((day, ()) for day in range(5000)), ())):
            self.assertIs(is_plan(plan), True)

    def test_bounds_of_numbers(self):
        for wrong in (-1, LAST_DAY + 1, 10 ** 30, -(10 ** 30)):
            self.assertIs(is_plan((((wrong, ()),), ())), False)
            self.assertIs(is_plan(((), ((wrong, ()),))), False)
        for wrong in ((-1, 0, 1), (7, 0, 1), (0, -1, 1), (0, 1440, 1), (0, 0, 0), (0, 0, -1),
                      (0, 0, 1441), (10 ** 30, 0, 1), (0, 10 ** 30, 1), (0, 0, 10 ** 30)):
            with self.subTest(wrong):
                self.assertIs(is_plan((((3, (wrong,)),), ())), False)
        for wrong in ((-1, 1), (1440, 1), (0, 0), (0, -1), (0, 1441), (10 ** 30, 1), (0, 10 ** 30)):
            with self.subTest(wrong):
                self.assertIs(is_plan(((), ((3, (wrong,)),))), False)

    def test_days_rise_none_twice(self):
        for rows in (((1, ()), (1, ())), ((2, ()), (1, ())), ((0, ()), (5, ()), (4, ())),
                     ((0, ()), (5, ()), (5, ())), ((3, ()), (3, ((0, 0, 1),)))):
            with self.subTest(rows):
                self.assertIs(is_plan((rows, ())), False)
        for rows in (((1, ()), (1, ())), ((2, ()), (1, ())), ((0, ()), (5, ()), (4, ())),
                     ((0, ()), (5, ()), (5, ())), ((3, ()), (3, ((0, 1),)))):
            with self.subTest(rows):
                self.assertIs(is_plan(((), rows)), False)

    def test_shifts_rise_none_twice(self):
        for shifts in (((0, 5, 9), (0, 5, 9)), ((0, 5, 9), (0, 5, 8)), ((0, 5, 9), (0, 4, 10)),
                       ((1, 0, 1), (0, 5, 9)), ((0, 1, 1), (2, 1, 1), (1, 1, 1))):
            with self.subTest(shifts):
                self.assertIs(is_plan((((3, shifts),), ())), False)
        for shifts in (((5, 9), (5, 9)), ((5, 9), (5, 8)), ((5, 9), (4, 10)), ((1, 1), (3, 1), (2, 1))):
            with self.subTest(shifts):
                self.assertIs(is_plan(((), ((3, shifts),))), False)

    def test_parts_left_out_or_too_many(self):
        for thing in ((), ((),), ((), (), ()), (((3,),), ()), (((3, (), ()),), ()), ((3, ()), ()),
                      ((), (3, ())), ((), ((3,),)), ((), ((3, (), 0),)), (((),), ()), ((), ((),)),
                      (((3, ((0, 5),)),), ()), (((3, ((0, 5, 9, 1),)),), ()), (((3, (0, 5, 9)),), ()),
                      ((), ((3, ((5,),)),)), ((), ((3, ((0, 5, 9),)),)), ((), ((3, (5, 9)),)),
                      (((3, ((),)),), ()), ((), ((3, ((),)),)), (((3, 4),), ())):
            with self.subTest(thing):
                self.assertIs(is_plan(thing), False)

    def test_truths_and_other_kinds_within(self):
        plan = (((1, ((1, 1, 1), (2, 3, 4))), (2, ())), ((1, ((1, 1), (2, 3))), (2, ())))
        self.assertIs(is_plan(plan), True)
        wrong = list(spoiled(plan))
        self.assertGreater(len(wrong), 200)
        for thing in wrong:
            with self.subTest(thing):
                self.assertIs(is_plan(thing), False)

    def test_lists_for_tuples(self):
        for thing in ([(), ()], ([], ()), ((), []), (([1, ()],), ()), (((1, []),), ()),
                      (((1, ([1, 2, 3],)),), ()), ((), ([1, ()],)), ((), ((1, []),)),
                      ((), ((1, ([2, 3],)),)), ([(1, ())], ()), ((), [(1, ())])):
            with self.subTest(thing):
                self.assertIs(is_plan(thing), False)

    def test_anything(self):
        for thing in odd_things():
            self.assertIs(is_plan(thing), False)
        for thing in odd_things():
            if thing != ():
                self.assertIs(is_plan((thing, ())), False)
                self.assertIs(is_plan(((), thing)), False)
                self.assertIs(is_plan((((1, thing),), ())), False)


class ShiftsOn(unittest.TestCase):

    def test_no_standing_yet(self):
        for day in (0, 4, 6, 7, 9):
            self.assertEqual(shifts_on(PLAN, day), [])
        for day in (0, 7, LAST_DAY):
            self.assertEqual(shifts_on(EMPTY, day), [])

    def test_the_weekday_of_a_day_before_the_first_standing(self):
        plan = (((8, ((0, 480, 240), (1, 480, 60), (2, 480, 30))),), ())
        self.assertEqual(shifts_on(plan, 7), [])
        self.assertEqual(shifts_on(plan, 1), [])
        self.assertEqual(shifts_on(plan, 8), stretches(8, (480, 60)))
        self.assertEqual(shifts_on(plan, 9), stretches(9, (480, 30)))
        self.assertEqual(shifts_on(plan, 14), stretches(14, (480, 240)))

    def test_those_of_the_weekday(self):
        for day in (10, 11, 12, 16, 17, 18, 19):
            self.assertEqual(shifts_on(PLAN, day), [])
        self.assertEqual(shifts_on(PLAN, 13), stretches(13, (1320, 600)))
        self.assertEqual(shifts_on(PLAN, 15), stretches(15, (480, 480)))

    def test_the_standing_of_the_greatest_day_not_above(self):
        self.assertEqual(shifts_on(PLAN, 20), stretches(20, (1439, 1440)))
        self.assertEqual(shifts_on(PLAN, 27), stretches(27, (1439, 1440)))
        self.assertEqual(shifts_on(PLAN, 28), stretches(28, (0, 1440)))
        self.assertEqual(shifts_on(PLAN, 22), [])
        self.assertEqual(shifts_on(PLAN, 34), [])
        self.assertEqual(shifts_on(PLAN, 35), [])
        self.assertEqual(shifts_on(PLAN, LAST_DAY), [])

    def test_a_single_is_in_the_place_of_the_standing(self):
        self.assertEqual(shifts_on(PLAN, 5), stretches(5, (60, 30)))
        self.assertEqual(shifts_on(PLAN, 21), stretches(21, (0, 1), (0, 2), (1439, 1440)))

    def test_a_single_of_no_shifts(self):
        self.assertEqual(shifts_on(PLAN, 14), [])
        self.assertEqual(shifts_on((PLAN[0], ()), 14), stretches(14, (480, 240), (780, 240)))

    def test_shifts_rise_and_may_share_minutes(self):
        plan = (((0, ((2, 5, 9), (2, 5, 10), (2, 6, 1), (2, 1400, 90), (3, 0, 60))),), ())
        self.assertEqual(shifts_on(plan, 9), stretches(9, (5, 9), (5, 10), (6, 1), (1400, 90)))
        self.assertEqual(shifts_on(plan, 10), stretches(10, (0, 60)))

    def test_first_and_last_day(self):
        plan = (((0, ((0, 0, 1440), (1, 1439, 1440))),), ((LAST_DAY - 1, ((0, 1),)),))
        self.assertEqual(shifts_on(plan, 0), [(0, 1440)])
        # Day 694,443 has weekday 1; its shifts may run beyond the last minute.
        self.assertEqual(shifts_on(plan, LAST_DAY), [(999999359, 1000000799)])
        self.assertEqual(shifts_on(plan, LAST_DAY - 1), [(999996480, 999996481)])

    def test_no_shifts_behind_the_last_day(self):
        plan = (((0, tuple((weekday, 0, 1440) for weekday in range(7))),), ())
        self.assertEqual(shifts_on(plan, LAST_DAY), stretches(LAST_DAY, (0, 1440)))
        for day in range(LAST_DAY + 1, LAST_DAY + 9):
            self.assertEqual(shifts_on(plan, day), [])
        for day in (-1, -7):
            self.assertEqual(shifts_on(plan, day), [])

    def test_a_new_list_of_tuples(self):
        for day in (5, 13, 14, 15, 9):
            told = shifts_on(PLAN, day)
            wanted = list(told)
            self.assertIs(told.__class__, list)
            self.assertTrue(all(part.__class__ is tuple for part in told))
            told.append("more")
            told[:1] = []
            self.assertEqual(shifts_on(PLAN, day), wanted)
        self.assertEqual(shifts_on(PLAN, 15), stretches(15, (480, 480)))

    def test_each_day_looked_for_one_by_one(self):
        chance = random.Random(7)
        for _ in range(200):
            plan = some_plan(chance)
            self.assertIs(is_plan(plan), True)
            for day in range(40):
                self.assertEqual(shifts_on(plan, day), slow_shifts_on(plan, day))


def some_plan(chance):
    """A plan of a few standings and singles below day 40."""
    standings = [(day, some_shifts(chance, (7, 1440, 1440)))
                 for day in sorted(chance.sample(range(40), chance.randint(0, 5)))]
    singles = [(day, some_shifts(chance, (1440, 1440)))
               for day in sorted(chance.sample(range(40), chance.randint(0, 8)))]
    return tuple(standings), tuple(singles)


def some_shifts(chance, bounds):
    """A few shifts, rising, of numbers below these bounds, lengths above 0."""
    made = {(*[chance.randrange(bound) for bound in bounds[:-1]], chance.randint(1, bounds[-1]))
            for _ in range(chance.randint(0, 12))}
    return tuple(sorted(made))


def slow_shifts_on(plan, day):
    """The shifts of a day as point [7] words it, row by row."""
    for single, shifts in plan[1]:
        if single == day:
            return stretches(day, *shifts)
    standing = ()
    for begin, shifts in plan[0]:
        if begin <= day:
            standing = shifts
    return stretches(day, *[shift[1:] for shift in standing if shift[0] == day % 7])


class WithStanding(unittest.TestCase):

    def test_in_order_whatever_comes_first(self):
        shifts = ((2, 60, 30),)
        plan = with_standing(EMPTY, 10, shifts)
        self.assertEqual(plan, (((10, shifts),), ()))
        plan = with_standing(plan, 30, ())
        plan = with_standing(plan, 0, WEEKLY)
        plan = with_standing(plan, 20, ((0, 0, 1),))
        self.assertEqual(plan, (((0, WEEKLY), (10, shifts), (20, ((0, 0, 1),)), (30, ())), ()))
        self.assertIs(is_plan(plan), True)

    def test_in_the_place_of_one_of_this_day_later_ones_stay(self):
        for at, day in enumerate((10, 20, 30)):
            plan = with_standing(PLAN, day, ((3, 4, 5),))
            wanted = (*PLAN[0][:at], (day, ((3, 4, 5),)), *PLAN[0][at + 1:])
            self.assertEqual(plan, (wanted, PLAN[1]))
        self.assertEqual(with_standing(PLAN, 20, ()), ((PLAN[0][0], (20, ()), PLAN[0][2]), PLAN[1]))

    def test_beside_the_neighbouring_days(self):
        for day in (9, 11, 19, 21, 29, 31, 0, LAST_DAY):
            plan = with_standing(PLAN, day, ((3, 4, 5),))
            self.assertEqual(plan[0], tuple(sorted((*PLAN[0], (day, ((3, 4, 5),))))))
            self.assertEqual(plan[1], PLAN[1])

    def test_shifts_from_that_day_on(self):
        plan = with_standing(PLAN, 16, ((3, 60, 30), (6, 0, 5)))
        for day in range(40):
            if day not in (17, 19):
                wanted = [] if day == 16 else shifts_on(PLAN, day)
                self.assertEqual(shifts_on(plan, day), wanted)
        self.assertEqual(shifts_on(plan, 17), stretches(17, (60, 30)))
        self.assertEqual(shifts_on(plan, 20), stretches(20, (1439, 1440)))

    def test_same_shifts_again(self):
        self.assertEqual(with_standing(PLAN, 10, WEEKLY), PLAN)

    def test_singles_stay(self):
        plan = with_standing(PLAN, 14, ((0, 1, 1),))
        self.assertEqual(shifts_on(plan, 14), [])
        self.assertEqual(plan[1], PLAN[1])


class WithSingle(unittest.TestCase):

    def test_in_order_whatever_comes_first(self):
        plan = with_single(EMPTY, 10, ((60, 30),))
        plan = with_single(plan, 30, ())
        plan = with_single(plan, 0, ((0, 1), (0, 2)))
        plan = with_single(plan, LAST_DAY, ((1439, 1440),))
        self.assertEqual(plan, ((), ((0, ((0, 1), (0, 2))), (10, ((60, 30),)), (30, ()),
                                     (LAST_DAY, ((1439, 1440),)))))
        self.assertIs(is_plan(plan), True)

    def test_in_the_place_of_one_of_this_day(self):
        for at, day in enumerate((5, 14, 21)):
            plan = with_single(PLAN, day, ((7, 8),))
            wanted = (*PLAN[1][:at], (day, ((7, 8),)), *PLAN[1][at + 1:])
            self.assertEqual(plan, (PLAN[0], wanted))
        self.assertEqual(with_single(PLAN, 14, ()), PLAN)

    def test_shifts_on_that_day_alone(self):
        plan = with_single(PLAN, 15, ((0, 60),))
        for day in range(40):
            wanted = stretches(15, (0, 60)) if day == 15 else shifts_on(PLAN, day)
            self.assertEqual(shifts_on(plan, day), wanted)
        plan = with_single(PLAN, 15, ())
        for day in range(40):
            wanted = [] if day == 15 else shifts_on(PLAN, day)
            self.assertEqual(shifts_on(plan, day), wanted)


class WithoutSingle(unittest.TestCase):

    def test_the_standing_counts_again(self):
        plan = without_single(PLAN, 14)
        self.assertEqual(plan, (PLAN[0], (PLAN[1][0], PLAN[1][2])))
        self.assertEqual(shifts_on(plan, 14), stretches(14, (480, 240), (780, 240)))
        self.assertEqual(without_single(PLAN, 5), (PLAN[0], PLAN[1][1:]))
        self.assertEqual(without_single(PLAN, 21), (PLAN[0], PLAN[1][:2]))

    def test_back_to_where_it_was(self):
        for day in (0, 6, 15, 22, LAST_DAY):
            self.assertEqual(without_single(with_single(PLAN, day, ()), day), PLAN)

    def test_refused_where_the_day_has_none(self):
        for plan, day in ((EMPTY, 0), (EMPTY, LAST_DAY), (PLAN, 0), (PLAN, 4), (PLAN, 6), (PLAN, 10),
                          (PLAN, 13), (PLAN, 15), (PLAN, 20), (PLAN, 22), (PLAN, LAST_DAY)):
            with self.subTest(plan=plan, day=day), self.assertRaises(NoSingle):
                without_single(plan, day)
        with self.assertRaises(NoSingle):
            without_single(without_single(PLAN, 14), 14)


class NothingChanged(unittest.TestCase):

    def test_what_is_handed_in_stays(self):
        kept = copy.deepcopy(PLAN)
        with_standing(PLAN, 20, ())
        with_single(PLAN, 14, ((1, 1),))
        without_single(PLAN, 14)
        shifts_on(PLAN, 21)
        is_plan(PLAN)
        with self.assertRaises(NoSingle):
            without_single(PLAN, 15)
        self.assertEqual(PLAN, kept)

    def test_what_is_told_is_tuples_throughout(self):
        for plan in (with_standing(PLAN, 20, ()), with_single(PLAN, 15, ((1, 1),)),
                     without_single(PLAN, 14)):
            self.assertIs(is_plan(plan), True)


class ToldSoon(unittest.TestCase):

    def test_long_plans(self):
        plan = (tuple((7 * day, ((1, day % 1440, 60),)) for day in range(90000)),
                tuple((7 * day + 2, ((day % 1440, 60),)) for day in range(90000)))
        self.assertIs(is_plan(plan), True)
        for week in range(0, 90000, 3):
            self.assertEqual(shifts_on(plan, 7 * week + 1), stretches(7 * week + 1, (week % 1440, 60)))
            self.assertEqual(shifts_on(plan, 7 * week + 2), stretches(7 * week + 2, (week % 1440, 60)))


if __name__ == "__main__":
    unittest.main()
