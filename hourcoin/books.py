"""Names, conditions, rules and books, and at which bounds conditions begin or end to hold."""

from hourcoin.kinds import are_rising, is_number_within, is_row
from hourcoin.times import DAY_LONG, WEEK_DAYS, WEEK_LONG

MOST_LETTERS = 8
MOST_RANK = 99
MOST_RATE = 1000000
MOST_RULES = 8


def is_name(thing):
    """Whether a thing is a text of one to eight small letters."""
    if not isinstance(thing, str) or not 1 <= len(thing) <= MOST_LETTERS:
        return False
    return thing.isascii() and thing.isalpha() and thing.islower()


def is_clock_condition(thing):
    """Whether a thing is a tuple (word, a, b), word clock, of two unlike clocks."""
    if not is_row(thing, 3) or thing[0] != "clock":
        return False
    return all([is_number_within(clock, 0, DAY_LONG - 1) for clock in thing[1:]]) and thing[1] != thing[2]


def are_weekdays(thing):
    """Whether a thing is a tuple of one or more weekdays, rising."""
    if not isinstance(thing, tuple) or not thing:
        return False
    return all([is_number_within(part, 0, WEEK_DAYS - 1) for part in thing]) and are_rising(thing)


def is_condition(thing):
    """Whether a thing is a condition of one of the five words."""
    if thing == ("feast",) or is_clock_condition(thing):
        return True
    if not is_row(thing, 2):
        return False
    word, told = thing
    if word == "days":
        return are_weekdays(told)
    if word == "day":
        return is_number_within(told, 1, DAY_LONG)
    return word == "week" and is_number_within(told, 1, WEEK_LONG)


def are_unlike(words):
    """Whether no text stands twice in a list of texts."""
    return len(set(words)) == len(words)


def is_rule(thing):
    """Whether a thing is a tuple (name, rank, sort, conditions)."""
    if not is_row(thing, 4):
        return False
    name, rank, sort, conditions = thing
    if not is_name(name) or not is_number_within(rank, 0, MOST_RANK) or not is_name(sort):
        return False
    if not isinstance(conditions, tuple) or not all([is_condition(one) for one in conditions]):
        return False
    return are_unlike([one[0] for one in conditions])


def is_rate(thing):
    """Whether a thing is a tuple (sort, rate)."""
    return is_row(thing, 2) and is_name(thing[0]) and is_number_within(thing[1], 0, MOST_RATE)


def are_rates(thing):
    """Whether a thing is a tuple of tuples (sort, rate), rising by sorts."""
    if not isinstance(thing, tuple) or not all([is_rate(row) for row in thing]):
        return False
    return are_rising([sort for sort, _ in thing])


def are_rules(thing):
    """Whether a thing is a tuple of at most eight rules of unlike names."""
    if not isinstance(thing, tuple) or len(thing) > MOST_RULES:
        return False
    return all([is_rule(rule) for rule in thing]) and are_unlike([rule[0] for rule in thing])


def is_book(thing):
    """Whether a thing is a tuple (base, rates, rules), with a rate for the base and each rule."""
    if not is_row(thing, 3):
        return False
    base, rates, rules = thing
    if not is_name(base) or not are_rates(rates) or not are_rules(rules):
        return False
    rated = {sort: True for sort, _ in rates}
    return base in rated and all([rule[2] in rated for rule in rules])


def rate_of(book, sort):
    """The coins for an hour of a sort that has a rate in a book."""
    return dict(book[1])[sort]


def marks_of(rules):
    """The numbers at which conditions begin or end to hold, as lists (clocks, days, weeks)."""
    conditions = [one for rule in rules for one in rule[3]]
    clocks = [clock for one in conditions if one[0] == "clock" for clock in one[1:]]
    days = [one[1] for one in conditions if one[0] == "day"]
    weeks = [one[1] for one in conditions if one[0] == "week"]
    return clocks, days, weeks
