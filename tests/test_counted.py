"""Point [13] and what [3] says of it: the minutes counted of stretches, added and taken."""

import copy
import random
import unittest

from hourcoin.counted import added, counted, taken
from hourcoin.lots import is_lot
from hourcoin.roundings import Down, Graced, Near, Up, rounding_of
from hourcoin.stamps import stretches
from tests.test_lots import lot_by_minutes, minutes_of
from tests.test_plans import some_plan
from tests.test_stamps import some_stamps

LAST = 999999359
EMPTY = ((), ())
PLAN = ((), ((0, ((480, 240), (780, 240))),))


def told(*bounds):
    """Stretches of these bounds, told."""
    return [(first, end, "told") for first, end in bounds]


def slow_counted(some, begins, ends):
    """What point [13] words, minute by minute."""
    minutes, reached = set(), 0
    for at, (first, end, _) in enumerate(some):
        b = max(begins.of(first), reached)
        e = ends.of(end)
        if some[at + 1:]:
            e = min(e, some[at + 1][0])
        e = max(e, b)
        assert minutes.isdisjoint(range(b, e))
        minutes.update(range(b, e))
        reached = e
    return lot_by_minutes(minutes)


class Counted(unittest.TestCase):

    def check(self, some, begins, ends, wanted):
        with self.subTest(some):
            self.assertEqual(counted(some, begins, ends), wanted)
            self.assertTrue(is_lot(wanted))

    def test_ordinary(self):
        self.check([], Down(15), Up(15), [])
        self.check(told((482, 719)), Down(15), Up(15), [(480, 720)])
        self.check(told((482, 719)), Up(15), Down(15), [(495, 705)])
        self.check(told((482, 719)), Near(15), Near(15), [(480, 720)])
        self.check(told((482, 719)), Down(1), Up(1), [(482, 719)])
        self.check(told((480, 720), (780, 1020)), Down(15), Up(15), [(480, 720), (780, 1020)])
        self.check([(482, 600, "end"), (700, 719, "begin")], Down(15), Up(15), [(480, 600), (690, 720)])

    def test_a_begin_is_at_least_the_end_of_the_one_ahead(self):
        self.check(told((60, 75), (80, 100)), Down(60), Up(10), [(60, 100)])
        self.check(told((60, 72), (85, 100)), Down(60), Up(10), [(60, 100)])
        self.check(told((60, 72), (130, 160)), Down(20), Up(10), [(60, 80), (120, 160)])
        # A begin that is rounded into the gap, but not over the end ahead of it.
        self.check(told((60, 61), (119, 160)), Down(60), Up(30), [(60, 180)])

    def test_a_begin_is_at_least_0_ahead_of_the_first(self):
        class Back(Down):
            def of(self, minute):
                return minute - 100
        self.check(told((60, 300)), Back(1), Up(1), [(0, 300)])

    def test_an_end_is_at_most_the_begin_of_the_next_one_as_it_was(self):
        self.check(told((60, 75), (80, 100)), Up(1), Up(60), [(60, 120)])
        self.check(told((60, 75), (80, 100)), Up(30), Up(60), [(60, 80), (90, 120)])
        self.check(told((60, 75), (80, 100)), Down(1), Up(60), [(60, 120)])
        self.check(told((60, 75), (81, 82)), Up(90), Up(60), [(90, 120)])
        self.check(told((0, 70), (75, 80)), Up(10), Up(240), [(0, 75), (80, 240)])

    def test_a_rounded_begin_behind_a_rounded_end(self):
        self.check(told((61, 70)), Up(60), Down(60), [])
        self.check(told((61, 119)), Up(60), Down(60), [])
        self.check(told((61, 120)), Up(60), Down(60), [])
        self.check(told((61, 181)), Up(60), Down(60), [(120, 180)])
        # Nothing is counted of the first one, and the second one begins no sooner than it began.
        self.check(told((61, 70), (100, 300)), Up(240), Down(60), [(240, 300)])
        self.check(told((61, 70), (71, 80), (90, 500)), Graced(60, Up(240), EMPTY), Up(1), [(240, 500)])

    def test_one_counted_as_nothing_bars_what_lies_ahead_of_its_begin(self):
        # The first begin becomes 120, behind its end; the second one, 100 rounded down, counts from there.
        rounding = Graced(20, Down(50), ((), ((0, ((120, 30),)),)))
        self.check(told((101, 103), (110, 300)), rounding, Up(1), [(120, 300)])
        self.check(told((101, 103), (160, 300)), rounding, Up(1), [(150, 300)])

    def test_neighbours_that_touch(self):
        self.check(told((60, 75), (75, 100)), Down(1), Up(1), [(60, 100)])
        self.check(told((60, 75), (75, 100)), Down(60), Up(60), [(60, 120)])
        self.check(told((60, 75), (75, 100)), Up(10), Down(10), [(60, 70), (80, 100)])
        self.check(told((60, 75), (75, 100)), Near(10), Near(10), [(60, 75), (80, 100)])

    def test_graced(self):
        begins, ends = Graced(10, Up(15), PLAN), Graced(10, Down(15), PLAN)
        self.check(told((475, 726), (774, 1030)), begins, ends, [(480, 720), (780, 1020)])
        self.check(told((491, 730), (770, 1031)), begins, ends, [(495, 720), (780, 1020)])
        self.check(told((469, 731)), begins, ends, [(480, 720)])
        self.check(told((464, 750)), begins, ends, [(465, 750)])

    def test_the_last_minutes_and_bounds_beyond(self):
        self.check(told((LAST - 1, LAST)), Down(1), Up(240), [(LAST - 1, 999999360)])
        self.check([(LAST, LAST + 1440, "end")], Down(240), Up(240), [(999999120, 1000000800)])
        self.check(told((0, 1)), Down(240), Up(240), [(0, 240)])

    def test_minute_by_minute(self):
        chance = random.Random(13)
        for _ in range(1500):
            plan = some_plan(chance)
            if chance.random() < 0.5:
                some = stretches(some_stamps(chance, 4000, 10), plan, chance.randint(1, 300))
            else:
                marks = sorted(chance.sample(range(600), 2 * chance.randint(0, 6)))
                some = told(*zip(marks[::2], marks[1::2]))
            roundings = [(chance.choice(["down", "up", "near"]), chance.choice([1, 7, 30, 240]))
                         for _ in range(2)]
            if chance.random() < 0.5:
                roundings = [("graced", chance.randint(1, 120), inner) for inner in roundings]
            begins, ends = [rounding_of(rounding, plan) for rounding in roundings]
            lot = counted(some, begins, ends)
            self.assertEqual(lot, slow_counted(some, begins, ends))
            worked, had = minutes_of([row[:2] for row in some]), minutes_of(lot)
            self.assertEqual(added(some, lot), lot_by_minutes(had - worked))
            self.assertEqual(taken(some, lot), lot_by_minutes(worked - had))
            # The minutes counted are those worked, with those added and without those taken.
            self.assertEqual((worked | minutes_of(added(some, lot))) - minutes_of(taken(some, lot)), had)


class AddedAndTaken(unittest.TestCase):

    def test_ordinary(self):
        for some, lot, more, less in (
                ([], [], [], []),
                (told((60, 75)), [], [], [(60, 75)]),
                (told((60, 75)), [(60, 75)], [], []),
                (told((62, 75)), [(60, 80)], [(60, 62), (75, 80)], []),
                (told((58, 82)), [(60, 80)], [], [(58, 60), (80, 82)]),
                (told((60, 75), (75, 100)), [(60, 100)], [], []),
                (told((60, 75), (80, 100)), [(60, 120)], [(75, 80), (100, 120)], []),
                (told((61, 70), (100, 300)), [(240, 300)], [], [(61, 70), (100, 240)]),
                (told((10, 20)), [(30, 40)], [(30, 40)], [(10, 20)])):
            with self.subTest(some=some, lot=lot):
                self.assertEqual(added(some, lot), more)
                self.assertEqual(taken(some, lot), less)


class NothingChanged(unittest.TestCase):

    def test_what_is_handed_in_and_what_is_told(self):
        some, lot = told((61, 75), (80, 100)), [(60, 100)]
        kept = copy.deepcopy((some, lot))
        for ask, wanted in ((lambda: counted(some, Down(60), Up(10)), [(60, 100)]),
                            (lambda: added(some, lot), [(60, 61), (75, 80)]),
                            (lambda: taken(some, [(70, 90)]), [(61, 70), (90, 100)])):
            one = ask()
            self.assertEqual(one, wanted)
            self.assertTrue(is_lot(one))
            one.append("more")
            one[0] = "other"
            self.assertEqual((some, lot), kept)
            self.assertEqual(ask(), wanted)
        one = counted(some, Down(60), Up(10))
        some.clear()
        self.assertEqual(one, [(60, 100)])


class ToldSoon(unittest.TestCase):

    def test_many_stretches(self):
        some = told(*[(2 * at, 2 * at + 1) for at in range(43200)])
        plan = (((0, tuple((day, 480, 240) for day in range(7))),), ())
        begins, ends = [rounding_of(("graced", 120, (word, 15)), plan) for word in ("down", "up")]
        lot = counted(some, begins, ends)
        self.assertEqual(lot, slow_counted(some, begins, ends))
        # All but the last minute, for which there is no next one.
        self.assertEqual(counted(some, Down(1), Up(2)), [(0, 86400)])
        self.assertEqual(added(some, [(0, 86400)]), [(2 * at + 1, 2 * at + 2) for at in range(43200)])

    def test_far_apart(self):
        self.assertEqual(counted(told((5, 9), (LAST - 5, LAST)), Down(10), Up(10)), [(0, 10), (999999350, 999999360)])


if __name__ == "__main__":
    unittest.main()
