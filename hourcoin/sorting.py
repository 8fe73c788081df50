"""Lots of counted minutes, each minute with its case, and with its sort by a book."""

from hourcoin.books import marks_of
from hourcoin.cases import sort_in
from hourcoin.errors import Quarrel
from hourcoin.lots import both, lot_of, minutes_in
from hourcoin.times import DAY_LONG, WEEK_LONG, clock_of, day_of, place_of, week_of


def case_at(lot, feasts, minute):
    """The case of a minute of a lot."""
    day = day_of(minute)
    week_ahead = minutes_in(both(lot, [(WEEK_LONG * week_of(minute), minute)]))
    day_ahead = minutes_in(both(lot, [(DAY_LONG * day, minute)]))
    return week_ahead, day_ahead, place_of(minute), day in feasts


def by_days(lot):
    """The stretches of a lot, parted where a day ends."""
    parts = []
    for first, behind in lot:
        begin = first
        while begin < behind:
            end = min(DAY_LONG * (day_of(begin) + 1), behind)
            parts.append((begin, end))
            begin = end
    return parts


def by_weeks(lot):
    """The tuples (week, lot) of the weeks that have minutes of a lot, rising."""
    weeks = {}
    for first, behind in by_days(lot):
        weeks.setdefault(week_of(first), []).append((first, behind))
    return [(week, lot_of(weeks[week])) for week in sorted(weeks)]


def with_counts(parts):
    """The parts as (first, behind, week, day): how many minutes lie ahead in its week and its day."""
    told = []
    week = 0
    day = 0
    for first, behind in parts:
        last = told[-1][0] if told else first
        week = week if week_of(last) == week_of(first) else 0
        day = day if day_of(last) == day_of(first) else 0
        told.append((first, behind, week, day))
        week += behind - first
        day += behind - first
    return told


def begins_in(part, marks):
    """The minutes of a part from each of which to ahead of the next all conditions stay the same."""
    first, behind, week, day = part
    clocks, days, weeks = marks
    midnight = first - clock_of(first)
    begins = [midnight + clock for clock in clocks]
    begins.extend([first - day + many for many in days])
    begins.extend([first - week + many for many in weeks])
    return [first] + sorted({begin for begin in begins if first < begin < behind})


def told_at(minute, case, book):
    """What the book tells in the case of a minute; Quarrel with that minute."""
    try:
        return sort_in(book, case)
    except Quarrel as quarrel:
        raise Quarrel(quarrel.names, minute) from None


def joined(rows):
    """The rows (first, behind, sort, name), rising, those that touch and are alike as one."""
    told = []
    for first, behind, sort, name in rows:
        if told and told[-1][1:] == (first, sort, name):
            told[-1] = (told[-1][0], behind, sort, name)
        else:
            told.append((first, behind, sort, name))
    return told


def sorted_out(lot, feasts, book):
    """The minutes of a lot as a list of (first, behind, sort, name); Quarrel at the first one."""
    feast_days = {day: True for day in feasts}
    marks = marks_of(book[2])
    rows = []
    for part in with_counts(by_days(lot)):
        first, behind, week, day = part
        begins = begins_in(part, marks)
        for begin, end in zip(begins, begins[1:] + [behind]):
            ahead = begin - first
            case = (week + ahead, day + ahead, place_of(begin), day_of(begin) in feast_days)
            sort, name = told_at(begin, case, book)
            rows.append((begin, end, sort, name))
    return joined(rows)
