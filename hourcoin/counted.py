"""The minutes that are counted of stretches, and what was added and taken by that."""

from hourcoin.lots import lot_of, without


def counted(some, begins, ends):
    """The lot counted of stretches (first, end, word) by a rounding for begins and one for ends."""
    spans = []
    reached = 0
    for at, (first, end, _) in enumerate(some):
        begin = max(begins.of(first), reached)
        reached = ends.of(end)
        if at + 1 < len(some):
            reached = min(reached, some[at + 1][0])
        reached = max(reached, begin)
        if begin < reached:
            spans.append((begin, reached))
    return lot_of(spans)


def worked_lot(some):
    """The lot of the minutes of stretches (first, end, word)."""
    return lot_of([(first, end) for first, end, _ in some])


def added(some, lot):
    """The lot of the counted minutes that no stretch has."""
    return without(lot, worked_lot(some))


def taken(some, lot):
    """The lot of the minutes of stretches that aren't counted."""
    return without(worked_lot(some), lot)
