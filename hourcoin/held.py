"""A plan held against a lot: the minutes of its shifts that are missing, and those beyond them."""

from hourcoin.lots import both, lot_of, without
from hourcoin.plans import shifts_on
from hourcoin.times import DAY_LONG


def shift_minutes(plan, first, behind):
    """The lot of all minutes of the shifts of the days from first to ahead of behind."""
    return lot_of([shift for day in range(first, behind) for shift in shifts_on(plan, day)])


def held(plan, lot, first, behind):
    """The lots (missing, beyond) of the days from first to ahead of behind."""
    missing = without(shift_minutes(plan, first, behind), lot)
    on_days = both(lot, [(DAY_LONG * first, DAY_LONG * behind)])
    # No shift is longer than a day, so of earlier shifts only those of the day ahead run in.
    beyond = without(on_days, shift_minutes(plan, first - 1, behind))
    return missing, beyond
