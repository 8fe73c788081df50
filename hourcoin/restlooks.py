"""Things of any kind looked at for whether they show a rest that is broken."""

from hourcoin.kinds import is_number, is_row
from hourcoin.rests import is_broken_at, spells


def has_minute(lot, minute):
    """Whether a minute is one of a lot."""
    return any([first <= minute < behind for first, behind in lot])


def shows_broken(lot, rests, thing):
    """Whether a thing is a tuple (minute, number, begin) of a rest that is broken at the minute."""
    if not is_row(thing, 3) or not all([is_number(part) for part in thing]):
        return False
    minute, number, begin = thing
    if not 0 <= number < len(rests):
        return False
    rest = rests[number]
    found = [spell for spell in spells(lot, rest) if has_minute(spell, minute)]
    return any([spell[0][0] == begin and is_broken_at(spell, rest, minute) for spell in found])
