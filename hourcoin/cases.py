"""Cases: in which a counted minute is, what rules hold there, and what sort they tell."""

from hourcoin.errors import Quarrel
from hourcoin.kinds import is_number, is_number_within, is_row
from hourcoin.lots import lot_of
from hourcoin.times import DAY_LONG, WEEK_LONG, clock_of, weekday_of


def is_case(thing):
    """Whether a thing is a tuple (week, day, place, feast) that can come."""
    if not is_row(thing, 4):
        return False
    week, day, place, feast = thing
    if not is_number_within(place, 0, WEEK_LONG - 1) or not isinstance(feast, bool):
        return False
    if not is_number(week) or not is_number_within(day, 0, clock_of(place)):
        return False
    return 0 <= week - day <= DAY_LONG * weekday_of(place)


def is_between(clock, first, behind):
    """Whether a clock is from first to ahead of behind, over midnight where behind is less."""
    if first < behind:
        return first <= clock < behind
    return clock >= first or clock < behind


def is_met(condition, case):
    """Whether a condition holds in a case."""
    week, day, place, feast = case
    word = condition[0]
    if word == "clock":
        return is_between(clock_of(place), condition[1], condition[2])
    if word == "days":
        return weekday_of(place) in condition[1]
    if word == "feast":
        return feast
    return (day if word == "day" else week) >= condition[1]


def holds(rule, case):
    """Whether all conditions of a rule hold in a case."""
    return all([is_met(condition, case) for condition in rule[3]])


def holding(rules, case):
    """The rules that hold in a case, in the book's order."""
    return [rule for rule in rules if holds(rule, case)]


def of_greatest_rank(rules):
    """Those of the rules that have the greatest rank."""
    rank = max([rule[1] for rule in rules], default=0)
    return [rule for rule in rules if rule[1] == rank]


def quarrel_among(rules):
    """Of rules that hold the names of two that quarrel, None where none do."""
    telling = of_greatest_rank(rules)
    for rule in telling:
        if rule[2] != telling[0][2]:
            return telling[0][0], rule[0]
    return None


def sort_among(book, held):
    """The tuple (sort, name) where just these rules of a book hold; Quarrel where they quarrel."""
    names = quarrel_among(held)
    if names is not None:
        raise Quarrel(names, None)
    if not held:
        return book[0], None
    rule = of_greatest_rank(held)[0]
    return rule[2], rule[0]


def sort_in(book, case):
    """The tuple (sort, name) of a case by a book; Quarrel where its rules quarrel there."""
    return sort_among(book, holding(book[2], case))


def row_of(case):
    """The tuple (lot, feasts) of week 0 whose last minute is in a case."""
    week, day, place, feast = case
    weekday = weekday_of(place)
    midnight = DAY_LONG * weekday
    ahead = [(0, week - day), (midnight, midnight + day), (place, place + 1)]
    lot = lot_of([(first, behind) for first, behind in ahead if first < behind])
    return lot, [weekday] if feast else []
