"""Books looked through for the least case in which their rules quarrel."""

from itertools import product

from hourcoin.books import marks_of
from hourcoin.cases import holding, is_met, quarrel_among
from hourcoin.times import DAY_LONG, WEEK_DAYS, WEEK_LONG


def spans(marks, top):
    """The spans (first, behind) from 0 to ahead of top that are parted at each mark."""
    firsts = [0] + sorted({mark for mark in marks if 0 < mark < top})
    return list(zip(firsts, firsts[1:] + [top]))


def let_by(word, rules, case):
    """As bits those of the rules whose condition of a word, if they have one, holds in a case."""
    bits = 0
    for at, rule in enumerate(rules):
        if all([is_met(condition, case) for condition in rule[3] if condition[0] == word]):
            bits += 1 << at
    return bits


def regions(rules):
    """For weeks, days, weekdays, clocks and feasts each a list of tuples (span or value, bits).

    The numbers of a span are alike to all conditions of its word, so its first one tells for each
    of them which of the rules these conditions let hold.
    """
    clocks, days, weeks = marks_of(rules)
    return (
        [(span, let_by("week", rules, (span[0], 0, 0, False))) for span in spans(weeks, WEEK_LONG)],
        [(span, let_by("day", rules, (0, span[0], 0, False))) for span in spans(days, DAY_LONG)],
        [(at, let_by("days", rules, (0, 0, DAY_LONG * at, False))) for at in range(WEEK_DAYS)],
        [(span, let_by("clock", rules, (0, 0, span[0], False))) for span in spans(clocks, DAY_LONG)],
        [(feast, let_by("feast", rules, (0, 0, 0, feast))) for feast in (False, True)],
    )


def least_within(weeks, days, weekday, clocks, feast):
    """The least case that can come within these spans, None where none can."""
    ahead = DAY_LONG * weekday
    # A greater week asks for as many minutes of the day or more, so where the least one, and with
    # it the least day, has no place, no greater one has.
    week = max(weeks[0], days[0])
    day = max(days[0], week - ahead)
    clock = max(clocks[0], day)
    if week < weeks[1] and day < days[1] and clock < clocks[1]:
        return week, day, ahead + clock, feast
    return None


def least_case(rules, wanted):
    """The least case in which wanted is True of the rules that hold, None where there is none.

    It is asked of the list of the numbers of rules, also of such as hold in no case that can come.
    """
    least = None
    answers = {}
    weeks, days, weekdays, clocks, feasts = regions(rules)
    for week, day, weekday, clock, feast in product(weeks, days, weekdays, clocks, feasts):
        bits = week[1] & day[1] & weekday[1] & clock[1] & feast[1]
        if bits not in answers:
            answers[bits] = wanted([at for at in range(len(rules)) if bits >> at & 1])
        if answers[bits]:
            case = least_within(week[0], day[0], weekday[0], clock[0], feast[0])
            if case is not None and (least is None or case < least):
                least = case
    return least


def quarrel_of(book):
    """The tuple (case, names) of the least case in which rules quarrel, None where none is."""
    rules = book[2]
    case = least_case(rules, lambda numbers: quarrel_among([rules[at] for at in numbers]) is not None)
    if case is None:
        return None
    return case, quarrel_among(holding(rules, case))
