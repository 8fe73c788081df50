"""Point [5]: stretches and lots."""

import copy
import random
import unittest

from hourcoin.lots import both, is_lot, lot_of, minutes_in, without
from tests.things import odd_things, spoiled

FAR = 10 ** 30


def minutes_of(stretches):
    """The set of the minutes of stretches."""
    return {minute for first, behind in stretches for minute in range(first, behind)}


def lot_by_minutes(minutes):
    """The lot of a set of minutes, told minute by minute."""
    firsts = sorted(minute for minute in minutes if minute - 1 not in minutes)
    ends = sorted(minute + 1 for minute in minutes if minute + 1 not in minutes)
    return list(zip(firsts, ends))


def some_stretches(chance):
    """Up to eight stretches from -20 to 20, so that many touch, share minutes or come twice."""
    firsts = [chance.randint(-20, 20) for _ in range(chance.randint(0, 8))]
    return [(first, first + chance.randint(1, 6)) for first in firsts]


class IsLot(unittest.TestCase):

    def test_lots(self):
        for lot in ([], [(0, 1)], [(-5, 3)], [(-9, -8), (-7, 0), (1, 2)], [(0, 1), (2, 3)],
                    [(0, 999999359)], [(999999359, 999999360)], [(-FAR, FAR), (FAR + 1, FAR + 2)],
                    [(2 * at, 2 * at + 1) for at in range(-5000, 5000)]):
            self.assertIs(is_lot(lot), True)

    def test_a_stretch_ends_behind_its_first_minute(self):
        for lot in ([(0, 0)], [(1, 0)], [(5, -5)], [(0, 2), (4, 4)], [(-1, -2)]):
            with self.subTest(lot):
                self.assertIs(is_lot(lot), False)

    def test_stretches_rise_and_do_not_touch(self):
        for lot in ([(0, 1), (1, 2)], [(0, 2), (1, 3)], [(0, 9), (3, 4)], [(0, 1), (0, 1)],
                    [(2, 3), (0, 1)], [(0, 1), (0, 2)], [(0, 1), (4, 6), (6, 7)],
                    [(0, 1), (4, 6), (2, 3)], [(-1, 0), (0, 1)], [(-1, 1), (-3, -2)]):
            with self.subTest(lot):
                self.assertIs(is_lot(lot), False)

    def test_anything(self):
        for thing in odd_things():
            self.assertIs(is_lot(thing), False)

    def test_truths_and_other_kinds_within(self):
        for thing in spoiled([(0, 1), (5, 9)]):
            with self.subTest(thing):
                self.assertIs(is_lot(thing), False)
        for thing in ([(False, True)], [(0, True)], [(False, 1)], [(-3, False)], [(True, 2)]):
            self.assertIs(is_lot(thing), False)

    def test_parts_left_out_or_too_many(self):
        for thing in ([(0,)], [(0, 1, 2)], [()], [(0, 1), ()], [(0, 1), (5,)], [0, 1], (0, 1),
                      ((0, 1),), [[0, 1]], [(0, 1), [5, 9]], [[(0, 1)]], [((0, 1),)], {(0, 1): 0}):
            with self.subTest(thing):
                self.assertIs(is_lot(thing), False)

    def test_what_is_handed_in_stays(self):
        thing = [(0, 1), [2, 3], {4: (5,)}]
        is_lot(thing)
        self.assertEqual(thing, [(0, 1), [2, 3], {4: (5,)}])


class LotOf(unittest.TestCase):

    def test_ordinary(self):
        for stretches, lot in (
                ([], []),
                ([(3, 7)], [(3, 7)]),
                ([(10, 12), (3, 7)], [(3, 7), (10, 12)]),
                ([(3, 7), (7, 9)], [(3, 9)]),
                ([(7, 9), (3, 7)], [(3, 9)]),
                ([(3, 7), (8, 9)], [(3, 7), (8, 9)]),
                ([(3, 7), (5, 9)], [(3, 9)]),
                ([(3, 9), (4, 6)], [(3, 9)]),
                ([(4, 6), (3, 9)], [(3, 9)]),
                ([(3, 9), (3, 5)], [(3, 9)]),
                ([(3, 9), (5, 9)], [(3, 9)]),
                ([(3, 7), (3, 7), (3, 7)], [(3, 7)]),
                ([(0, 10), (1, 2), (3, 4), (9, 12), (13, 14)], [(0, 12), (13, 14)]),
                ([(-1, 0), (0, 1)], [(-1, 1)]),
                ([(-9, -7), (-3, 2), (-7, -5)], [(-9, -5), (-3, 2)]),
                ([(999999359, 999999360), (0, 1)], [(0, 1), (999999359, 999999360)])):
            with self.subTest(stretches):
                self.assertEqual(lot_of(stretches), lot)

    def test_minute_by_minute(self):
        chance = random.Random(5)
        for _ in range(3000):
            stretches = some_stretches(chance)
            lot = lot_of(stretches)
            self.assertEqual(lot, lot_by_minutes(minutes_of(stretches)))
            self.assertIs(is_lot(lot), True)

    def test_a_new_list_of_tuples(self):
        stretches = [(9, 10), (3, 7)]
        lot = lot_of(stretches)
        self.assertEqual(stretches, [(9, 10), (3, 7)])
        self.assertEqual([part.__class__ for part in lot], [tuple, tuple])
        lot.append("more")
        lot[0] = "other"
        self.assertEqual(stretches, [(9, 10), (3, 7)])
        self.assertEqual(lot_of(stretches), [(3, 7), (9, 10)])
        ready = [(3, 7), (9, 10)]
        self.assertIsNot(lot_of(ready), ready)
        nothing = lot_of([])
        nothing.append("more")
        self.assertEqual(lot_of([]), [])

    def test_what_is_done_afterwards_changes_nothing(self):
        stretches = [(9, 10), (3, 7)]
        lot = lot_of(stretches)
        stretches.clear()
        self.assertEqual(lot, [(3, 7), (9, 10)])


class BothAndWithout(unittest.TestCase):

    def test_ordinary(self):
        # (one, other, what both have, what the one has and the other hasn't)
        for one, other, shared, rest in (
                ([], [], [], []),
                ([(3, 9)], [], [], [(3, 9)]),
                ([], [(3, 9)], [], []),
                ([(3, 9)], [(3, 9)], [(3, 9)], []),
                ([(3, 9)], [(4, 6)], [(4, 6)], [(3, 4), (6, 9)]),
                ([(4, 6)], [(3, 9)], [(4, 6)], []),
                ([(3, 9)], [(1, 5)], [(3, 5)], [(5, 9)]),
                ([(3, 9)], [(5, 12)], [(5, 9)], [(3, 5)]),
                ([(3, 9)], [(3, 5)], [(3, 5)], [(5, 9)]),
                ([(3, 9)], [(5, 9)], [(5, 9)], [(3, 5)]),
                ([(3, 9)], [(9, 12)], [], [(3, 9)]),
                ([(3, 9)], [(1, 3)], [], [(3, 9)]),
                ([(3, 9)], [(20, 30)], [], [(3, 9)]),
                ([(3, 9)], [(0, 1), (20, 30)], [], [(3, 9)]),
                ([(0, 5), (8, 12)], [(3, 10)], [(3, 5), (8, 10)], [(0, 3), (10, 12)]),
                ([(0, 9)], [(1, 2), (3, 4), (5, 6)], [(1, 2), (3, 4), (5, 6)],
                 [(0, 1), (2, 3), (4, 5), (6, 9)]),
                ([(1, 2), (3, 4), (5, 6)], [(0, 9)], [(1, 2), (3, 4), (5, 6)], []),
                ([(0, 2), (4, 6), (8, 10)], [(4, 6)], [(4, 6)], [(0, 2), (8, 10)]),
                ([(-9, -3)], [(-5, 2)], [(-5, -3)], [(-9, -5)]),
                ([(-5, 5)], [(-1, 1)], [(-1, 1)], [(-5, -1), (1, 5)])):
            with self.subTest(one=one, other=other):
                self.assertEqual(both(one, other), shared)
                self.assertEqual(both(other, one), shared)
                self.assertEqual(without(one, other), rest)

    def test_minute_by_minute(self):
        chance = random.Random(6)
        for _ in range(3000):
            one, other = lot_of(some_stretches(chance)), lot_of(some_stretches(chance))
            had, has = minutes_of(one), minutes_of(other)
            self.assertEqual(both(one, other), lot_by_minutes(had & has))
            self.assertEqual(without(one, other), lot_by_minutes(had - has))
            self.assertEqual(minutes_in(one), len(had))

    def test_new_lists_and_nothing_changed(self):
        cases = (([(3, 9), (12, 15)], [(4, 6)]), ([(3, 9)], []), ([], [(3, 9)]), ([], []))
        for one, other in cases:
            kept = copy.deepcopy((one, other))
            for told in (both, without):
                with self.subTest(told=told, one=one, other=other):
                    lot = told(one, other)
                    wanted = list(lot)
                    self.assertTrue(all(part.__class__ is tuple for part in lot))
                    lot.insert(0, "more")
                    lot[1:] = []
                    self.assertEqual((one, other), kept)
                    self.assertEqual(told(one, other), wanted)

    def test_a_lot_held_against_itself(self):
        lot = [(3, 9), (12, 15)]
        self.assertEqual(without(lot, lot), [])
        self.assertEqual(both(lot, lot), lot)
        self.assertIsNot(both(lot, lot), lot)


class MinutesIn(unittest.TestCase):

    def test_known(self):
        for lot, many in (([], 0), ([(0, 1)], 1), ([(-3, 4)], 7), ([(0, 1), (5, 9)], 5),
                          ([(0, 999999360)], 999999360), ([(-9, -7), (-1, 1)], 4)):
            with self.subTest(lot):
                self.assertEqual(minutes_in(lot), many)
                self.assertIs(minutes_in(lot).__class__, int)
        self.assertEqual(minutes_in(lot), 4)
        self.assertEqual(lot, [(-9, -7), (-1, 1)])


class ToldSoon(unittest.TestCase):

    def test_minutes_far_apart(self):
        wide = [(-FAR, FAR)]
        holed = [(-FAR, -1), (0, 7), (FAR - 1, FAR)]
        self.assertEqual(lot_of([(0, FAR), (-FAR, 0)]), wide)
        self.assertEqual(both(wide, [(FAR - 1, FAR + 9)]), [(FAR - 1, FAR)])
        self.assertEqual(without(wide, holed), [(-1, 0), (7, FAR - 1)])
        self.assertEqual(minutes_in(wide), 2 * FAR)
        self.assertEqual(minutes_in([(0, 999999360)]), 999999360)

    def test_many_stretches(self):
        many = 50000
        one = [(4 * at, 4 * at + 2) for at in range(many)]
        other = [(4 * at + 1, 4 * at + 3) for at in range(many)]
        self.assertEqual(lot_of(other + one), [(4 * at, 4 * at + 3) for at in range(many)])
        self.assertEqual(both(one, other), [(4 * at + 1, 4 * at + 2) for at in range(many)])
        self.assertEqual(without(one, other), [(4 * at, 4 * at + 1) for at in range(many)])
        self.assertEqual(minutes_in(one), 2 * many)
        self.assertIs(is_lot(one), True)


if __name__ == "__main__":
    unittest.main()
