"""Stretches (first, behind) of minutes, and lots: lists of stretches that rise and do not touch."""

from hourcoin.kinds import is_number, is_row


def is_stretch(thing):
    """Whether a thing is a tuple of two whole numbers, the first less."""
    if not is_row(thing, 2):
        return False
    first, behind = thing
    return is_number(first) and is_number(behind) and first < behind


def is_lot(thing):
    """Whether a thing is a list of stretches, each beginning behind the end of the one ahead."""
    if not isinstance(thing, list) or not all([is_stretch(part) for part in thing]):
        return False
    return all([one[1] < other[0] for one, other in zip(thing, thing[1:])])


def lot_of(stretches):
    """The lot of all minutes of stretches, which may come in any order and share minutes."""
    lot = []
    for first, behind in sorted(stretches):
        if lot and first <= lot[-1][1]:
            lot[-1] = (lot[-1][0], max(lot[-1][1], behind))
        else:
            lot.append((first, behind))
    return lot


def both(one, other):
    """The lot of the minutes that both lots have."""
    shared = []
    at = 0
    to = 0
    while at < len(one) and to < len(other):
        first = max(one[at][0], other[to][0])
        behind = min(one[at][1], other[to][1])
        if first < behind:
            shared.append((first, behind))
        # The stretch that ends first shares no more, the other one still may.
        if one[at][1] == behind:
            at += 1
        else:
            to += 1
    return shared


def gaps(lot, first, behind):
    """The lot of the minutes from first to ahead of behind that a lot hasn't."""
    free = []
    reached = first
    for begin, end in lot:
        if reached < min(begin, behind):
            free.append((reached, min(begin, behind)))
        reached = max(reached, end)
    if reached < behind:
        free.append((reached, behind))
    return free


def without(one, other):
    """The lot of the minutes that the one lot has and the other hasn't."""
    if not one:
        return []
    return both(one, gaps(other, one[0][0], one[-1][1]))


def minutes_in(lot):
    """How many minutes a lot has."""
    return sum([behind - first for first, behind in lot])
