"""Rests (word, limit, long), the spells of a lot by them, and where and when they are broken."""

from hourcoin.errors import Worn
from hourcoin.kinds import is_number_within, is_row
from hourcoin.lots import both, minutes_in
from hourcoin.times import WEEK_LONG


def is_rest(thing):
    """Whether a thing is a tuple (word, limit, long), word work or length."""
    if not is_row(thing, 3) or thing[0] not in ("work", "length"):
        return False
    return all([is_number_within(number, 1, WEEK_LONG) for number in thing[1:]])


def spells(lot, rest):
    """The stretches of a lot put together where less than the rest's long minutes lie between."""
    told = []
    for first, behind in lot:
        if told and first - told[-1][-1][1] < rest[2]:
            told[-1].append((first, behind))
        else:
            told.append([(first, behind)])
    return told


def ahead_in(spell, rest, minute):
    """How many minutes that count by a rest lie from the begin of a spell to ahead of a minute."""
    begin = spell[0][0]
    return minutes_in(both(spell, [(begin, minute)])) if rest[0] == "work" else minute - begin


def is_broken_at(spell, rest, minute):
    """Whether a rest is broken at a minute of work of its spell, or one that is put behind it."""
    return ahead_in(spell, rest, minute) >= rest[1]


def first_broken_in(spell, rest):
    """The first minute of a spell at which a rest is broken, None where there is none."""
    word, limit, _ = rest
    begin = spell[0][0]
    worked = 0
    for first, behind in spell:
        ahead = worked if word == "work" else first - begin
        minute = max(first, first + limit - ahead)
        if minute < behind:
            return minute
        worked += behind - first
    return None


def first_broken(lot, rests):
    """The tuple (minute, number, begin) of the first broken rest, None where none is."""
    found = []
    for number, rest in enumerate(rests):
        for spell in spells(lot, rest):
            minute = first_broken_in(spell, rest)
            if minute is not None:
                found.append((minute, number, spell[0][0]))
    return min(found, default=None)


def refuse_worn(lot, rests):
    """Worn where a rest is broken already."""
    broken = first_broken(lot, rests)
    if broken is not None:
        raise Worn(broken[0])


def lasting(spell, rest):
    """The minute to ahead of which the last stretch of a spell could last by a rest."""
    first = spell[-1][0]
    return first + rest[1] - ahead_in(spell, rest, first)


def may_go_on(lot, rests):
    """The greatest minute to ahead of which the last stretch could last, None by no rests; or Worn."""
    refuse_worn(lot, rests)
    return min([lasting(spells(lot, rest)[-1], rest) for rest in rests], default=None)


def would_break(spell, rest, minute):
    """Whether one minute of work, from the end of the last spell on, would break a rest."""
    return minute - spell[-1][1] < rest[2] and is_broken_at(spell, rest, minute)


def rested_by(lot, rests):
    """The least minute from the end on at which one minute of work would break no rest; or Worn."""
    refuse_worn(lot, rests)
    end = lot[-1][1]
    last = [(spells(lot, rest)[-1], rest) for rest in rests]
    # Only here a rest that would be broken just ahead begins to be kept.
    minutes = [end] + [end + rest[2] for rest in rests]
    return min([minute for minute in minutes
                if not any([would_break(spell, rest, minute) for spell, rest in last])])
