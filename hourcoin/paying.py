"""What counted minutes are due by a book, as lines (day, sort, rate, minutes) and as a sum."""

from hourcoin.sorting import by_days, sorted_out
from hourcoin.times import day_of


def as_lines(minutes):
    """The lines of a dict of minutes by (day, sort, rate), those of no minutes left out."""
    return [(*key, minutes[key]) for key in sorted(minutes) if minutes[key] != 0]


def lines(lot, feasts, book):
    """The lines of counted minutes by a book; Quarrel as of sorted_out."""
    rates = dict(book[1])
    minutes = {}
    for first, behind, sort, _ in sorted_out(lot, feasts, book):
        for begin, end in by_days([(first, behind)]):
            key = (day_of(begin), sort, rates[sort])
            minutes[key] = minutes.get(key, 0) + end - begin
    return as_lines(minutes)


def worth(lines):
    """The sixtieths of a coin that lines are worth."""
    return sum([rate * many for _, _, rate, many in lines])


def due(lot, feasts, book):
    """The sixtieths of a coin that counted minutes are due by a book; Quarrel as of sorted_out."""
    return worth(lines(lot, feasts, book))


def difference(lines, others):
    """The lines of what the others have more than the lines, minutes below 0 where they have less."""
    minutes = {}
    for rows, sign in ((lines, -1), (others, 1)):
        for day, sort, rate, many in rows:
            key = (day, sort, rate)
            minutes[key] = minutes.get(key, 0) + sign * many
    return as_lines(minutes)
