"""Points [23], [24], [25] and what [3] says of them: rests, spells, and how long one may go on."""

import copy
import random
import unittest

from hourcoin.errors import Worn
from hourcoin.lots import is_lot
from hourcoin.restlooks import shows_broken
from hourcoin.rests import first_broken, is_rest, may_go_on, rested_by, spells
from tests.test_lots import lot_by_minutes, minutes_of
from tests.test_sorting import BUSY_LOT, some_lot
from tests.things import odd_things, spoiled

LAST = 999999359


def slow_spells(minutes, long):
    """The spells of sorted minutes, each a list of its minutes: put together minute by minute."""
    told = []
    for minute in minutes:
        if told and minute - told[-1][-1] - 1 < long:
            told[-1].append(minute)
        else:
            told.append([minute])
    return told


def slow_broken(lot, rests):
    """All tuples (minute, number, begin) that point [24] speaks of, rising."""
    told = []
    for number, (word, limit, long) in enumerate(rests):
        for spell in slow_spells(sorted(minutes_of(lot)), long):
            for ahead, minute in enumerate(spell):
                if (ahead if word == "work" else minute - spell[0]) >= limit:
                    told.append((minute, number, spell[0]))
    return sorted(told)


def slow_may_go_on(lot, rests):
    """What point [25] words, a minute more each time; of Worn its minute in a list."""
    broken = slow_broken(lot, rests)
    if broken:
        return [broken[0][0]]
    if not rests:
        return None
    first, behind = lot[-1]
    while not slow_broken(lot[:-1] + [(first, behind + 1)], rests):
        behind += 1
    return behind


def slow_rested_by(lot, rests):
    """What point [25] words, each minute tried; of Worn its minute in a list."""
    broken = slow_broken(lot, rests)
    if broken:
        return [broken[0][0]]
    minute = lot[-1][1]
    while slow_broken(lot + [(minute, minute + 1)], rests):
        minute += 1
    return minute


def fast(asked, lot, rests):
    """What is told, or of Worn its minute in a list."""
    try:
        return asked(lot, rests)
    except Worn as worn:
        return [worn.minute]


def some_rests(chance, most, many):
    """Up to so many rests, limit and long at most this."""
    return [(chance.choice(["work", "length"]), chance.randint(1, most), chance.randint(1, most))
            for _ in range(chance.randint(0, many))]


class IsRest(unittest.TestCase):

    def test_rests(self):
        for rest in (("work", 1, 1), ("length", 1, 1), ("work", 10080, 10080), ("length", 10080, 10080),
                     ("work", 360, 30), ("length", 780, 660)):
            self.assertIs(is_rest(rest), True)

    def test_numbers_at_a_bound_and_one_beyond(self):
        for word in ("work", "length"):
            for wrong in (0, -1, 10081, 10 ** 30, -(10 ** 30)):
                self.assertIs(is_rest((word, wrong, 5)), False)
                self.assertIs(is_rest((word, 5, wrong)), False)

    def test_words_one_letter_otherwise(self):
        for word in ("", "wor", "works", "Work", "WORK", "wark", " work", "work ", "work\n", "lengt", "lengths",
                     "Length", "lenght", "rest", "o"):
            with self.subTest(word):
                self.assertIs(is_rest((word, 5, 5)), False)

    def test_parts_left_out_too_many_or_of_another_kind(self):
        for thing in ((), ("work",), ("work", 5), ("work", 5, 5, 5), (5, 5, "work"), (5, 5), ("work", (5, 5)),
                      ("work", True, 5), ("work", 5, True), ("work", "5", 5), ("work", None, 5), ["work", 5, 5],
                      {"work": 5}, "work 5 5", (("work",), 5, 5), (["work"], 5, 5), (("work", 5, 5),),
                      *spoiled(("work", 5, 5)), *spoiled(("length", 1, 1))):
            with self.subTest(thing):
                self.assertIs(is_rest(thing), False)

    def test_anything(self):
        for thing in odd_things():
            number = not isinstance(thing, bool) and thing in (1, 1440)
            self.assertIs(is_rest(thing), False)
            self.assertIs(is_rest((thing, 5, 5)), False)
            self.assertIs(is_rest(("work", thing, 5)), number)
            self.assertIs(is_rest(("length", 5, thing)), number)


class Spells(unittest.TestCase):

    def check(self, lot, long, wanted):
        for word, limit in (("work", 1), ("length", 1), ("work", 10080), ("length", 500)):
            with self.subTest(lot=lot, long=long):
                told = spells(lot, (word, limit, long))
                self.assertEqual(told, wanted)
                self.assertTrue(all(is_lot(spell) for spell in told))
                minutes = slow_spells(sorted(minutes_of(lot)), long)
                self.assertEqual([sorted(minutes_of(spell)) for spell in told], minutes)

    def test_known(self):
        self.check([], 5, [])
        self.check([(0, 9)], 5, [[(0, 9)]])
        self.check([(0, 9), (10, 12)], 1, [[(0, 9)], [(10, 12)]])
        self.check([(0, 9), (10, 12)], 2, [[(0, 9), (10, 12)]])
        self.check([(0, 9), (10, 12), (13, 14)], 10080, [[(0, 9), (10, 12), (13, 14)]])

    def test_a_gap_of_just_long_minutes_and_one_less(self):
        self.check([(0, 9), (39, 50)], 30, [[(0, 9)], [(39, 50)]])
        self.check([(0, 9), (38, 50)], 30, [[(0, 9), (38, 50)]])
        self.check([(0, 9), (38, 50), (80, 90), (119, 120)], 30,
                   [[(0, 9), (38, 50)], [(80, 90), (119, 120)]])
        self.check([(0, 9), (10089, 10090)], 10080, [[(0, 9)], [(10089, 10090)]])
        self.check([(0, 9), (10088, 10090)], 10080, [[(0, 9), (10088, 10090)]])

    def test_lists_are_the_askers_own(self):
        lot, rest = [(0, 9), (20, 30), (90, 99)], ("work", 5, 30)
        kept = copy.deepcopy(lot)
        told = spells(lot, rest)
        wanted = copy.deepcopy(told)
        told[0].append((1000, 1001))
        told[1].clear()
        told.append([])
        self.assertEqual(lot, kept)
        self.assertEqual(spells(lot, rest), wanted)
        told = spells(lot, rest)
        lot.clear()
        self.assertEqual(told, wanted)


class FirstBroken(unittest.TestCase):

    def check(self, lot, rests, wanted):
        with self.subTest(lot=lot, rests=rests):
            self.assertEqual(first_broken(lot, rests), wanted)
            self.assertEqual(next(iter(slow_broken(lot, rests)), None), wanted)
            if wanted is not None:
                self.assertIs(shows_broken(lot, rests, wanted), True)

    def test_none(self):
        self.check([], [], None)
        self.check([(0, 500)], [], None)
        self.check([], [("work", 1, 1)], None)
        self.check([(0, 500)], [("work", 500, 30), ("length", 500, 30)], None)

    def test_minutes_that_reach_just_the_limit_and_one_more(self):
        for word in ("work", "length"):
            self.check([(60, 420)], [(word, 360, 30)], None)
            self.check([(60, 421)], [(word, 360, 30)], (420, 0, 60))
            self.check([(60, 900)], [(word, 360, 30)], (420, 0, 60))
        self.check([(0, 100), (110, 210)], [("work", 200, 30)], None)
        self.check([(0, 100), (110, 211)], [("work", 200, 30)], (210, 0, 0))
        self.check([(0, 100), (110, 210)], [("length", 210, 30)], None)
        self.check([(0, 100), (110, 211)], [("length", 210, 30)], (210, 0, 0))

    def test_limit_and_long_at_their_bounds(self):
        self.check([(5, 6)], [("work", 1, 1), ("length", 1, 1)], None)
        self.check([(5, 7)], [("work", 1, 1)], (6, 0, 5))
        self.check([(5, 7)], [("length", 1, 1)], (6, 0, 5))
        self.check([(5, 6), (7, 8), (9, 10)], [("work", 1, 1), ("length", 1, 1)], None)
        self.check([(5, 6), (7, 8)], [("work", 1, 2)], (7, 0, 5))
        self.check([(5, 6), (7, 8)], [("length", 2, 2)], (7, 0, 5))
        self.check([(5, 6), (7, 8)], [("length", 3, 2)], None)
        for word in ("work", "length"):
            self.check([(9, 10089)], [(word, 10080, 10080)], None)
            self.check([(9, 10090)], [(word, 10080, 10080)], (10089, 0, 9))
            self.check([(9, 30000)], [(word, 10080, 1)], (10089, 0, 9))

    def test_a_gap_of_just_long_minutes_and_one_less(self):
        for word in ("work", "length"):
            self.check([(0, 200), (230, 400)], [(word, 200, 30)], None)
        self.check([(0, 200), (229, 400)], [("work", 200, 30)], (229, 0, 0))
        self.check([(0, 200), (229, 400)], [("length", 200, 30)], (229, 0, 0))
        self.check([(0, 200), (229, 400)], [("length", 230, 30)], (230, 0, 0))

    def test_length_broken_at_a_minute_behind_a_gap(self):
        self.check([(0, 100), (120, 130)], [("length", 110, 30)], (120, 0, 0))
        self.check([(0, 100), (120, 130)], [("length", 120, 30)], (120, 0, 0))
        self.check([(0, 100), (120, 130)], [("length", 121, 30)], (121, 0, 0))
        self.check([(0, 100), (120, 130)], [("length", 130, 30)], None)
        self.check([(0, 100), (120, 130)], [("length", 100, 21)], (120, 0, 0))
        self.check([(0, 100), (120, 130)], [("length", 100, 20)], None)

    def test_the_first_minute_not_the_first_rest(self):
        lot = [(0, 300), (400, 900)]
        self.check(lot, [("work", 250, 30), ("length", 200, 30)], (200, 1, 0))
        self.check(lot, [("work", 400, 30), ("length", 300, 200)], (400, 1, 0))
        self.check(lot, [("work", 400, 30), ("length", 401, 30)], (800, 0, 400))

    def test_two_rests_broken_at_one_minute(self):
        lot = [(0, 300), (400, 900)]
        self.check(lot, [("length", 200, 30), ("work", 200, 30)], (200, 0, 0))
        self.check(lot, [("work", 900, 30), ("work", 200, 30), ("length", 200, 30)], (200, 1, 0))
        # At one minute, the one in a longer spell than the other.
        self.check(lot, [("work", 400, 30), ("length", 800, 101)], (800, 0, 400))
        self.check(lot, [("length", 800, 101), ("work", 400, 30)], (800, 0, 0))
        self.check(lot, [("work", 400, 30), ("work", 400, 30)], (800, 0, 400))

    def test_later_spells(self):
        self.check([(0, 100), (200, 300), (400, 501)], [("work", 100, 60)], (500, 0, 400))
        self.check([(0, 100), (200, 301), (400, 501)], [("work", 100, 60)], (300, 0, 200))

    def test_far_apart_and_below_0(self):
        self.check([(5, 9), (LAST - 5, LAST + 20)], [("work", 20, 10080)], (LAST + 15, 0, LAST - 5))
        self.check([(-90, -50), (-40, 10)], [("length", 95, 11)], (5, 0, -90))

    def test_minute_by_minute(self):
        chance = random.Random(40)
        found = 0
        for _ in range(600):
            most = chance.choice([6, 60, 400])
            lot = some_lot(chance, 8 * most, 6, most)
            rests = some_rests(chance, most, 4)
            wanted = next(iter(slow_broken(lot, rests)), None)
            self.assertEqual(first_broken(lot, rests), wanted)
            found += wanted is not None
        self.assertTrue(100 < found < 550, found)


class ShowsBroken(unittest.TestCase):

    def test_any_minute_and_rest_broken_there(self):
        lot = [(0, 300), (400, 900)]
        rests = [("work", 250, 30), ("length", 200, 200), ("work", 10080, 1)]
        for minute in (250, 299, 650, 899):
            self.assertIs(shows_broken(lot, rests, (minute, 0, 0 if minute < 300 else 400)), True)
        for minute in (200, 299, 400, 899):
            self.assertIs(shows_broken(lot, rests, (minute, 1, 0)), True)
        for wrong in ((249, 0, 0), (300, 0, 0), (399, 0, 0), (400, 0, 0), (400, 0, 400), (650, 0, 0), (649, 0, 400),
                      (900, 0, 400), (-1, 0, 0), (199, 1, 0), (300, 1, 0), (399, 1, 0), (400, 1, 400), (900, 1, 0),
                      (250, 2, 0), (250, 3, 0), (250, -1, 0), (250, -3, 0), (200, -2, 0), (250, 0, 1), (250, 0, -1),
                      (250, 0, 400), (10 ** 30, 0, 0), (250, 10 ** 30, 0), (250, -(10 ** 30), 0), (250, 0, 10 ** 30)):
            with self.subTest(wrong):
                self.assertIs(shows_broken(lot, rests, wrong), False)

    def test_no_rests_and_no_minutes(self):
        for thing in ((0, 0, 0), (5, 0, 0), (0, -1, 0)):
            self.assertIs(shows_broken([(0, 900)], [], thing), False)
            self.assertIs(shows_broken([], [("work", 1, 1)], thing), False)

    def test_each_minute_and_each_begin(self):
        chance = random.Random(41)
        for _ in range(40):
            lot = some_lot(chance, 40, 5, 9)
            rests = some_rests(chance, 8, 3)
            broken = set(slow_broken(lot, rests))
            for minute in range(-2, 55):
                for number in range(-1, 4):
                    for begin in {minute, -1, 0, *[first for first, _ in lot]}:
                        thing = (minute, number, begin)
                        self.assertIs(shows_broken(lot, rests, thing), thing in broken)

    def test_truths_in_the_place_of_numbers(self):
        lot, rests = [(0, 9)], [("work", 1, 1), ("length", 1, 1)]
        for thing in ((1, 0, 0), (1, 1, 0)):
            self.assertIs(shows_broken(lot, rests, thing), True)
        for thing in ((True, 0, 0), (1, False, 0), (1, True, 0), (1, 0, False), (True, True, False)):
            self.assertIs(shows_broken(lot, rests, thing), False)

    def test_parts_left_out_too_many_or_of_another_kind(self):
        lot, rests = [(0, 9)], [("work", 1, 1), ("length", 1, 1)]
        for thing in ((), (1,), (1, 1), (1, 1, 0, 0), ((1, 1, 0),), [(1, 1, 0)], [1, 1, 0], "1 1 0", {1: 1, 0: 0},
                      ("1", 1, 0), (1, "1", 0), (1, 1, "0"), (None, 1, 0), (1, None, 0), (1, 1, None),
                      ((1,), 1, 0), (1, [1], 0), (1, 1, {}), *spoiled((1, 1, 0))):
            with self.subTest(thing):
                self.assertIs(shows_broken(lot, rests, thing), False)

    def test_anything(self):
        lot, rests = [(0, 9)], [("work", 1, 1), ("length", 1, 1)]
        for thing in odd_things():
            kept = copy.deepcopy(thing)
            number = not isinstance(thing, bool)
            self.assertIs(shows_broken(lot, rests, thing), False)
            self.assertIs(shows_broken(lot, rests, (thing, 0, 0)), number and thing == 1)
            self.assertIs(shows_broken(lot, rests, (1, thing, 0)), number and thing in (0, 1))
            self.assertIs(shows_broken(lot, rests, (1, 1, thing)), number and thing == 0)
            self.assertEqual(thing, kept)


class GoOn(unittest.TestCase):

    def check(self, lot, rests, on, by):
        with self.subTest(lot=lot, rests=rests):
            self.assertEqual(fast(may_go_on, lot, rests), on)
            self.assertEqual(slow_may_go_on(lot, rests), on)
            self.assertEqual(fast(rested_by, lot, rests), by)
            self.assertEqual(slow_rested_by(lot, rests), by)

    def test_no_rests(self):
        self.check([(5, 9)], [], None, 9)
        self.check([(5, 9), (100, 5000)], [], None, 5000)

    def test_one_stretch(self):
        self.check([(60, 100)], [("work", 360, 30)], 420, 100)
        self.check([(60, 100)], [("length", 360, 30)], 420, 100)
        self.check([(60, 419)], [("work", 360, 30)], 420, 419)
        self.check([(60, 420)], [("work", 360, 30)], 420, 450)
        self.check([(60, 419)], [("length", 360, 30)], 420, 419)
        self.check([(60, 420)], [("length", 360, 30)], 420, 450)

    def test_more_than_one_stretch_of_a_spell(self):
        self.check([(0, 100), (110, 150)], [("work", 200, 30)], 210, 150)
        self.check([(0, 100), (110, 150)], [("length", 200, 30)], 200, 150)
        self.check([(0, 100), (110, 210)], [("work", 200, 30)], 210, 240)
        self.check([(0, 100), (110, 200)], [("length", 200, 30)], 200, 230)
        self.check([(0, 100), (130, 150)], [("work", 200, 30)], 330, 150)
        self.check([(0, 100), (130, 150)], [("length", 200, 30)], 330, 150)

    def test_limit_and_long_at_their_bounds(self):
        self.check([(5, 6)], [("work", 1, 1)], 6, 7)
        self.check([(5, 6)], [("length", 1, 1)], 6, 7)
        self.check([(5, 6)], [("work", 2, 1)], 7, 6)
        self.check([(5, 6)], [("work", 1, 10080)], 6, 10086)
        # Too long to be tried minute by minute.
        for word in ("work", "length"):
            lot, rests = [(5, 6)], [(word, 10080, 10080)]
            self.assertEqual((may_go_on(lot, rests), rested_by(lot, rests)), (10085, 6))
            lot = [(5, 10085)]
            self.assertEqual((may_go_on(lot, rests), rested_by(lot, rests)), (10085, 20165))

    def test_the_least_of_the_rests(self):
        self.check([(0, 100)], [("work", 300, 30), ("length", 200, 30), ("work", 250, 10)], 200, 100)
        self.check([(0, 100), (150, 180)], [("work", 300, 30), ("length", 200, 60)], 200, 180)

    def test_rested_by_more_than_one_rest(self):
        self.check([(0, 100)], [("work", 100, 30), ("work", 100, 45)], 100, 145)
        self.check([(0, 100)], [("work", 100, 45), ("length", 100, 30)], 100, 145)
        self.check([(0, 100)], [("work", 100, 45), ("length", 145, 60)], 100, 160)
        self.check([(0, 100)], [("work", 100, 45), ("length", 146, 60)], 100, 145)
        # By the length one may work at once, by the work only when it is too late for the length.
        self.check([(0, 100)], [("work", 100, 30), ("length", 110, 200)], 100, 300)
        self.check([(0, 100)], [("work", 100, 30), ("length", 131, 200)], 100, 130)
        self.check([(0, 100)], [("work", 100, 30), ("length", 130, 30)], 100, 130)
        self.check([(0, 100)], [("length", 140, 300), ("work", 100, 30), ("length", 120, 50)], 100, 400)
        self.check([(0, 100)], [("length", 151, 300), ("work", 100, 30), ("length", 120, 50)], 100, 150)

    def test_a_rest_that_is_broken_already(self):
        self.check([(0, 101)], [("work", 100, 30)], [100], [100])
        self.check([(0, 101)], [("length", 100, 30)], [100], [100])
        self.check([(0, 101), (500, 510)], [("work", 900, 30), ("work", 100, 30)], [100], [100])
        self.check([(0, 300)], [("work", 200, 30), ("length", 100, 30)], [100], [100])
        self.check([(0, 100), (110, 120)], [("length", 100, 30)], [110], [110])

    def test_a_minute_more_would_break(self):
        for rests in ([("work", 10, 5)], [("length", 10, 5)]):
            self.check([(0, 10)], rests, 10, 15)
            self.check([(0, 11)], rests, [10], [10])
            self.check([(0, 9)], rests, 10, 9)

    def test_minute_by_minute(self):
        chance = random.Random(42)
        worn = 0
        for _ in range(600):
            most = chance.choice([4, 12, 30])
            lot = some_lot(chance, 3 * most, 4, most) or [(3, 4)]
            rests = some_rests(chance, 2 * most, 4)
            wanted = slow_may_go_on(lot, rests), slow_rested_by(lot, rests)
            self.assertEqual((fast(may_go_on, lot, rests), fast(rested_by, lot, rests)), wanted)
            worn += isinstance(wanted[0], list)
        self.assertTrue(100 < worn < 500, worn)

    def test_whole_numbers(self):
        lot, rests = [(0, 9)], [("work", 20, 5)]
        self.assertIs(may_go_on(lot, rests).__class__, int)
        self.assertIs(rested_by(lot, rests).__class__, int)
        self.assertEqual([one.__class__ for one in first_broken(lot, [("work", 5, 5)])], [int] * 3)

    def test_beyond_the_last_minute(self):
        self.assertEqual(may_go_on([(LAST - 5, LAST)], [("work", 100, 30)]), LAST + 95)
        self.assertEqual(rested_by([(LAST - 5, LAST)], [("work", 5, 10080)]), LAST + 10080)


class NothingChanged(unittest.TestCase):

    def test_what_is_handed_in_stays(self):
        lot, rests = [(0, 100), (110, 210)], [("work", 200, 30), ("length", 300, 20)]
        kept = copy.deepcopy((lot, rests))
        first_broken(lot, rests)
        may_go_on(lot, rests)
        rested_by(lot, rests)
        shows_broken(lot, rests, (5, 0, 0))
        self.assertEqual((lot, rests), kept)
        for asked in (may_go_on, rested_by):
            self.assertEqual(fast(asked, lot, rests + [("work", 50, 30)]), [50])
        self.assertEqual((lot, rests), kept)


class ToldSoon(unittest.TestCase):

    def test_thousands_of_stretches_and_a_dozen_rests(self):
        lot = [(2 * at, 2 * at + 1) for at in range(5000)]
        rests = [(word, 10080 - at, 2 + 1000 * at) for at in range(6) for word in ("work", "length")]
        self.assertIsNone(first_broken(lot, rests))
        self.assertEqual(may_go_on(lot, rests), 10075)
        self.assertEqual(rested_by(lot, rests), 9999)
        self.assertEqual(first_broken(BUSY_LOT, rests), (10076, 9, 0))
        self.assertIs(shows_broken(BUSY_LOT, rests, (86398, 0, 0)), True)

    def test_thousands_of_minutes(self):
        self.assertEqual(first_broken([(7, 80000)], [("work", 10080, 1)] * 12), (10087, 0, 7))

    def test_far_apart(self):
        lot = [(1440 * day, 1440 * day + 500) for day in range(0, 694443, 11770)]
        rests = [("work", 500, 10080), ("length", 501, 30)]
        self.assertIsNone(first_broken(lot, rests))
        self.assertEqual(may_go_on(lot, rests), lot[-1][1])
        self.assertEqual(rested_by(lot, rests), lot[-1][1] + 10080)
        self.assertEqual(len(spells(lot, rests[0])), len(lot))


class Kept(unittest.TestCase):

    def test_a_lot_of_all_minutes_until_one_may_go_on_breaks_no_rest(self):
        chance = random.Random(43)
        for _ in range(200):
            lot = some_lot(chance, 300, 5, 60) or [(3, 4)]
            rests = some_rests(chance, 200, 3)
            on = fast(may_go_on, lot, rests)
            if isinstance(on, int):
                self.assertIsNone(first_broken(lot[:-1] + [(lot[-1][0], on)], rests))
                self.assertEqual(first_broken(lot[:-1] + [(lot[-1][0], on + 1)], rests)[0], on)
                by = rested_by(lot, rests)
                minutes = [*minutes_of(lot), by]
                self.assertIsNone(first_broken(lot_by_minutes(minutes), rests))


if __name__ == "__main__":
    unittest.main()
