"""Plans: the shifts that stand from a day on, and those that a single day has of its own."""

from hourcoin.errors import NoSingle
from hourcoin.kinds import are_rising, is_number_within, is_row
from hourcoin.rising import has_row, rows_to, with_row, without_row
from hourcoin.times import DAY_LONG, LAST_DAY, WEEK_DAYS


def is_single_shift(thing):
    """Whether a thing is a tuple (clock, length)."""
    if not is_row(thing, 2):
        return False
    clock, length = thing
    return is_number_within(clock, 0, DAY_LONG - 1) and is_number_within(length, 1, DAY_LONG)


def is_standing_shift(thing):
    """Whether a thing is a tuple (weekday, clock, length)."""
    if not is_row(thing, 3):
        return False
    return is_number_within(thing[0], 0, WEEK_DAYS - 1) and is_single_shift(thing[1:])


def is_dated(thing, is_shift):
    """Whether a thing is a tuple (day, shifts), shifts rising and each as is_shift has it."""
    if not is_row(thing, 2):
        return False
    day, shifts = thing
    if not is_number_within(day, 0, LAST_DAY) or not isinstance(shifts, tuple):
        return False
    return all([is_shift(shift) for shift in shifts]) and are_rising(shifts)


def are_dated(thing, is_shift):
    """Whether a thing is a tuple of tuples (day, shifts), days rising."""
    if not isinstance(thing, tuple) or not all([is_dated(row, is_shift) for row in thing]):
        return False
    return are_rising([day for day, _ in thing])


def is_plan(thing):
    """Whether a thing is a tuple (standings, singles)."""
    if not is_row(thing, 2):
        return False
    standings, singles = thing
    return are_dated(standings, is_standing_shift) and are_dated(singles, is_single_shift)


def clocks_on(plan, day):
    """The shifts of a day as a list of tuples (clock, length), rising."""
    standings, singles = plan
    if has_row(singles, day):
        return list(singles[rows_to(singles, day) - 1][1])
    reached = rows_to(standings, day)
    if reached == 0:
        return []
    shifts = standings[reached - 1][1]
    return [(clock, length) for weekday, clock, length in shifts if weekday == day % WEEK_DAYS]


def shifts_on(plan, day):
    """The shifts of a day as a list of stretches, rising."""
    # A standing goes on for ever, but behind the last day there are no shifts.
    if day > LAST_DAY:
        return []
    begin = DAY_LONG * day
    return [(begin + clock, begin + clock + length) for clock, length in clocks_on(plan, day)]


def with_standing(plan, day, shifts):
    """The plan with these shifts from a day on, up to the next standing."""
    standings, singles = plan
    return with_row(standings, day, shifts), singles


def with_single(plan, day, shifts):
    """The plan with these shifts on a single day."""
    standings, singles = plan
    return standings, with_row(singles, day, shifts)


def without_single(plan, day):
    """The plan with no shifts of a day's own; NoSingle where it has none."""
    standings, singles = plan
    if not has_row(singles, day):
        raise NoSingle(f"day {day} has no shifts of its own")
    return standings, without_row(singles, day)
