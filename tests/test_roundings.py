"""Point [12]: roundings, as tuples and as objects."""

import copy
import random
import unittest

from hourcoin.roundings import Down, Graced, Near, Rounding, Up, is_rounding, rounding_of
from tests.test_plans import slow_shifts_on, some_plan
from tests.things import odd_things, spoiled

LAST = 999999359
LAST_DAY = 694443
EMPTY = ((), ())
CLASSES = {"down": Down, "up": Up, "near": Near, "graced": Graced}


def slow_step(word, step, minute):
    """What a minute becomes by a step, looked for number by number."""
    near = [at for at in range(minute - step, minute + step + 1) if at % step == 0]
    if word == "down":
        return max(at for at in near if at <= minute)
    if word == "up":
        return min(at for at in near if at >= minute)
    return min(near, key=lambda at: (abs(at - minute), -at))


def slow_of(rounding, plan, minute):
    """What point [12] words, by all shifts of the days around."""
    if rounding[0] != "graced":
        return slow_step(*rounding, minute)
    days = range(max(minute // 1440 - 4, 0), min(minute // 1440 + 4, LAST_DAY) + 1)
    bounds = [bound for day in days for shift in slow_shifts_on(plan, day) for bound in shift]
    near = [bound for bound in bounds if abs(bound - minute) <= rounding[1]]
    return min(near, key=lambda at: (abs(at - minute), at)) if near else slow_step(*rounding[2], minute)


class IsRounding(unittest.TestCase):

    def test_roundings(self):
        for word in ("down", "up", "near"):
            for step in (1, 15, 240):
                self.assertIs(is_rounding((word, step)), True)
                for grace in (1, 5, 120):
                    self.assertIs(is_rounding(("graced", grace, (word, step))), True)

    def test_numbers_at_a_bound_and_one_beyond(self):
        for wrong in (0, -1, 241, 10 ** 30, -(10 ** 30)):
            for word in ("down", "up", "near"):
                self.assertIs(is_rounding((word, wrong)), False)
                self.assertIs(is_rounding(("graced", 5, (word, wrong))), False)
        for wrong in (0, -1, 121, 240, 10 ** 30, -(10 ** 30)):
            self.assertIs(is_rounding(("graced", wrong, ("up", 5))), False)

    def test_words_one_letter_otherwise(self):
        for word in ("", "Down", "dow", "downs", "up ", "u", "Up", "ups", "nea", "nearer", "graced", "in"):
            with self.subTest(word):
                self.assertIs(is_rounding((word, 5)), False)
                self.assertIs(is_rounding(("graced", 5, (word, 5))), False)
        for word in ("", "grace", "Graced", "graced ", "down", "up", "near"):
            self.assertIs(is_rounding((word, 5, ("up", 5))), False)

    def test_no_graced_one_in_a_graced_one(self):
        inner = ("graced", 5, ("up", 5))
        self.assertIs(is_rounding(inner), True)
        self.assertIs(is_rounding(("graced", 5, inner)), False)
        self.assertIs(is_rounding(("graced", 5, ("graced", 5, inner))), False)

    def test_parts_left_out_too_many_or_of_another_kind(self):
        for thing in (("down",), ("down", 5, 5), ("graced", 5), ("graced", ("up", 5)), ("graced", 5, ()),
                      ("graced", 5, ("up", 5), 5), ("graced", ("up", 5), 5), ("graced", 5, "up", 5),
                      ["down", 5], ("graced", 5, ["up", 5]), ["graced", 5, ("up", 5)], (5, "down"),
                      ("down", True), ("graced", True, ("up", 5)), ("graced", 5, ("up", True)),
                      ("down", None), ("graced", 5, None), ("graced", 5, ("up",)), ("down", ("up", 5)),
                      (("down", 5),), ("graced", 5, (("up", 5),)), "down 5", {"down": 5}):
            with self.subTest(thing):
                self.assertIs(is_rounding(thing), False)
        for rounding in (("down", 7), ("near", 1), ("graced", 9, ("up", 7))):
            for thing in spoiled(rounding):
                with self.subTest(thing):
                    self.assertIs(is_rounding(thing), False)

    def test_anything(self):
        for thing in odd_things():
            self.assertIs(is_rounding(thing), False)
            self.assertIs(is_rounding((thing, 5)), False)
            self.assertIs(is_rounding((thing, 5, ("up", 5))), False)
            self.assertIs(is_rounding(("graced", 5, thing)), False)


class Classes(unittest.TestCase):

    def test_straight_under_rounding_none_under_another(self):
        for one in CLASSES.values():
            self.assertEqual(one.__bases__, (Rounding,))
            self.assertIn("of", vars(one))
        self.assertIn("of", vars(Rounding))

    def test_the_object_of_just_that_class(self):
        plan = ((), ((0, ((60, 30),)),))
        for word in ("down", "up", "near"):
            self.assertIs(rounding_of((word, 7), plan).__class__, CLASSES[word])
            graced = rounding_of(("graced", 9, (word, 7)), plan)
            self.assertIs(graced.__class__, Graced)
            self.assertEqual(graced.of(61), 60)
            self.assertEqual(graced.of(1000), rounding_of((word, 7), plan).of(1000))


class BySteps(unittest.TestCase):

    def test_ordinary(self):
        for minute, step, down, up, near in (
                (0, 15, 0, 0, 0), (1, 15, 0, 15, 0), (7, 15, 0, 15, 0), (8, 15, 0, 15, 15),
                (15, 15, 15, 15, 15), (22, 15, 15, 30, 15), (23, 15, 15, 30, 30),
                (29, 15, 15, 30, 30), (5, 10, 0, 10, 10), (4, 10, 0, 10, 0), (15, 10, 10, 20, 20),
                (1, 2, 0, 2, 2), (120, 240, 0, 240, 240), (119, 240, 0, 240, 0), (7, 1, 7, 7, 7),
                (LAST, 1, LAST, LAST, LAST), (LAST, 240, 999999120, 999999360, 999999360),
                (999999360, 7, 999999357, 999999364, 999999357),
                (1000000799, 240, 1000000560, 1000000800, 1000000800)):
            with self.subTest(minute=minute, step=step):
                self.assertEqual(Down(step).of(minute), down)
                self.assertEqual(Up(step).of(minute), up)
                self.assertEqual(Near(step).of(minute), near)

    def test_number_by_number(self):
        for step in (1, 2, 3, 7, 10, 15, 239, 240):
            for minute in [*range(0, 500), *range(LAST - 20, LAST + 1500, 7)]:
                for word in ("down", "up", "near"):
                    told = rounding_of((word, step), EMPTY).of(minute)
                    self.assertEqual(told, slow_step(word, step, minute))
                    self.assertIs(told.__class__, int)


class GracedOnes(unittest.TestCase):

    def check(self, plan, grace, inner, rows):
        rounding = rounding_of(("graced", grace, inner), plan)
        for minute, wanted in rows:
            with self.subTest(minute=minute):
                self.assertEqual(rounding.of(minute), wanted)
                self.assertEqual(slow_of(("graced", grace, inner), plan, minute), wanted)

    def test_a_bound_just_a_grace_away_and_one_more(self):
        plan = ((), ((1, ((480, 240),)),))
        self.check(plan, 5, ("down", 60), (
            (1914, 1860), (1915, 1920), (1920, 1920), (1925, 1920), (1926, 1920), (1985, 1980),
            (2154, 2100), (2155, 2160), (2160, 2160), (2165, 2160), (2229, 2220)))
        self.check(plan, 5, ("up", 100), ((1914, 2000), (1926, 2000), (2166, 2200)))
        self.check(plan, 1, ("up", 100), ((1918, 2000), (1919, 1920), (1921, 1920), (1922, 2000)))
        self.check(plan, 120, ("near", 240), (
            (1799, 1680), (1800, 1920), (2039, 1920), (2040, 1920), (2041, 2160), (2280, 2160), (2281, 2400)))

    def test_amid_two_bounds_the_lesser(self):
        plan = ((), ((0, ((100, 10), (107, 20))),))
        self.check(plan, 20, ("up", 7), (
            (103, 100), (104, 107), (108, 107), (109, 110), (118, 110), (119, 127), (147, 127), (148, 154)))
        # Bounds at 100 and 110: 105 lies just amid them.
        self.check(((), ((0, ((100, 10),)),)), 5, ("up", 7), ((105, 100), (106, 110), (94, 98), (116, 119)))
        self.check(((), ((0, ((100, 10),)),)), 4, ("up", 7), ((105, 105), (104, 100)))

    def test_inner_is_an_object(self):
        plan = ((), ((0, ((100, 10),)),))
        graced = Graced(3, Near(25), plan)
        self.assertEqual([graced.of(minute) for minute in (96, 97, 103, 106, 107, 113, 114)],
                         [100, 100, 100, 100, 110, 110, 125])
        self.assertEqual(Graced(3, Down(25), EMPTY).of(99), 75)
        self.assertEqual(Graced(3, Up(25), EMPTY).of(1), 25)

    def test_shifts_of_days_ahead_that_end_near(self):
        # From day 1 23:59 a day long, to day 2 23:59, and near day 3.
        plan = ((), ((1, ((1439, 1440),)),))
        self.check(plan, 120, ("down", 240), (
            (4319, 4319), (4320, 4319), (4439, 4319), (4440, 4320), (4199, 4319), (4198, 4080),
            (2879, 2879), (2880, 2879), (2999, 2879), (3000, 2880), (2759, 2879), (2758, 2640)))

    def test_shifts_of_the_day_behind(self):
        plan = ((), ((2, ((0, 60), (100, 5))),))
        self.check(plan, 10, ("down", 240), (
            (2869, 2640), (2870, 2880), (2879, 2880), (2880, 2880), (2900, 2880), (2930, 2940)))
        self.check(plan, 120, ("down", 240), ((2760, 2880), (2759, 2640), (2879, 2880)))

    def test_a_bound_just_a_grace_away_over_midnight(self):
        for grace in (1, 120):
            # A shift that ends a grace ahead of day 2, and one that begins one behind its last minute.
            plan = ((), ((1, ((1000, 440 - grace),)), (3, ((grace - 1, 500),))))
            self.check(plan, grace, ("down", 239), (
                (2880, 2880 - grace), (2881, 2868), (4319, 4319 + grace), (4318, 4302)))

    def test_the_first_and_the_last_days(self):
        daily = (((0, tuple((day, 0, 1440) for day in range(7))),), ())
        # The end of the last day is a bound; of later days there are none.
        self.check(daily, 10, ("down", 100), (
            (0, 0), (10, 0), (1430, 1440), (1429, 1400), (LAST, 999999360), (999999370, 999999360),
            (999999371, 999999300), (1000000795, 1000000700), (1000000801, 1000000800)))
        late = (((0, tuple((day, 30, 1440) for day in range(7))),), ())
        self.check(late, 10, ("down", 100), (
            (0, 0), (19, 0), (20, 30), (LAST, 999999300), (999999379, 999999300), (999999380, 999999390),
            (999999400, 999999390), (999999401, 999999400), (1000000825, 1000000800),
            (1000000835, 1000000800), (2000000000, 2000000000)))

    def test_no_bounds(self):
        self.check(EMPTY, 120, ("down", 7), ((0, 0), (13, 7), (LAST, 999999357)))

    def test_by_all_shifts_around(self):
        chance = random.Random(12)
        for _ in range(300):
            plan = some_plan(chance)
            inner = (chance.choice(["down", "up", "near"]), chance.choice([1, 15, 240]))
            told = ("graced", chance.choice([1, 10, 60, 120]), inner)
            rounding = rounding_of(told, plan)
            for _ in range(40):
                minute = chance.randrange(42 * 1440)
                self.assertEqual(rounding.of(minute), slow_of(told, plan, minute))

    def test_of_one_object_asked_in_any_order(self):
        plan = some_plan(random.Random(3))
        one = rounding_of(("graced", 60, ("near", 15)), plan)
        minutes = list(range(0, 20000, 37))
        rising = [one.of(minute) for minute in minutes]
        self.assertEqual([one.of(minute) for minute in reversed(minutes)], rising[::-1])

    def test_what_is_handed_in_stays(self):
        plan = ((), ((0, ((100, 10),)),))
        rounding = ("graced", 5, ("near", 7))
        kept = copy.deepcopy((rounding, plan))
        rounding_of(rounding, plan).of(101)
        is_rounding(rounding)
        self.assertEqual((rounding, plan), kept)


class ToldSoon(unittest.TestCase):

    def test_a_long_plan_and_many_minutes(self):
        shifts = tuple((day, clock, 90) for day in range(7) for clock in range(0, 1440, 10))
        rounding = rounding_of(("graced", 4, ("down", 15)), (((0, shifts),), ()))
        for minute in range(0, 60 * 1440, 3):
            self.assertLessEqual(abs(rounding.of(minute) - minute), 5)

    def test_far_apart(self):
        rounding = rounding_of(("graced", 4, ("down", 15)), ((), ((LAST_DAY, ((0, 1),)),)))
        self.assertEqual([rounding.of(minute) for minute in (20, 500000003, LAST_DAY * 1440 - 2)],
                         [15, 499999995, LAST_DAY * 1440])


if __name__ == "__main__":
    unittest.main()
