"""Roundings, as tuples and as objects, by which a minute becomes another one."""

from hourcoin.kinds import is_number_within, is_row
from hourcoin.plans import shifts_on
from hourcoin.times import DAY_LONG, day_of

MOST_STEP = 240
MOST_GRACE = 120


def is_step_rounding(thing):
    """Whether a thing is a tuple (word, step), word down, up or near."""
    if not is_row(thing, 2):
        return False
    word, step = thing
    return word in ("down", "up", "near") and is_number_within(step, 1, MOST_STEP)


def is_rounding(thing):
    """Whether a thing is a rounding: one by a step, or a graced one."""
    if not is_row(thing, 3):
        return is_step_rounding(thing)
    word, grace, inner = thing
    return word == "graced" and is_number_within(grace, 1, MOST_GRACE) and is_step_rounding(inner)


class Rounding:
    """What a minute becomes; made only as one of the classes under it."""

    def of(self, minute):
        """What a minute becomes."""
        raise NotImplementedError(f"no rounding of itself for {minute}")


class Down(Rounding):
    """To the greatest number that the step divides and that isn't above the minute."""

    def __init__(self, step):
        self.step = step

    def of(self, minute):
        """What a minute becomes."""
        return minute // self.step * self.step


class Up(Rounding):
    """To the least number that the step divides and that isn't below the minute."""

    def __init__(self, step):
        self.step = step

    def of(self, minute):
        """What a minute becomes."""
        return -(-minute // self.step) * self.step


class Near(Rounding):
    """To the nearest number that the step divides, of two the greater."""

    def __init__(self, step):
        self.step = step

    def of(self, minute):
        """What a minute becomes."""
        # In half minutes, so that half of an odd step is a whole number, too.
        return (2 * minute + self.step) // (2 * self.step) * self.step


def bounds_by(plan, day, grace):
    """The bounds of shifts of any days that lie at most the grace from a minute of a day, rising."""
    # No shift is longer than a day and no grace is as long, so only these days have such shifts.
    shifts = [shift for other in range(day - 2, day + 2) for shift in shifts_on(plan, other)]
    least = DAY_LONG * day - grace
    most = DAY_LONG * (day + 1) - 1 + grace
    return sorted({bound for shift in shifts for bound in shift if least <= bound <= most})


class Graced(Rounding):
    """To the nearest bound of a shift within the grace, of two the lesser; else by the inner one."""

    def __init__(self, grace, inner, plan):
        self.grace = grace
        self.inner = inner
        self.plan = plan
        self.kept = {}

    def bounds_of(self, day):
        """The bounds that minutes of a day may become, for which the plan is asked but once."""
        if day not in self.kept:
            self.kept[day] = bounds_by(self.plan, day, self.grace)
        return self.kept[day]

    def of(self, minute):
        """What a minute becomes."""
        rows = [(abs(bound - minute), bound) for bound in self.bounds_of(day_of(minute))]
        distance, nearest = min(rows, default=(self.grace + 1, None))
        return nearest if distance <= self.grace else self.inner.of(minute)


def rounding_of(rounding, plan):
    """The object for a rounding, of the class of just its word."""
    word, number = rounding[:2]
    if word == "graced":
        return Graced(number, rounding_of(rounding[2], plan), plan)
    if word == "down":
        return Down(number)
    return Up(number) if word == "up" else Near(number)
