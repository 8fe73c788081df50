"""Books as texts, a row for each rate, for the base and for each rule."""

from hourcoin.books import MOST_RANK, MOST_RATE, are_rules, is_condition
from hourcoin.errors import NoText
from hourcoin.times import DAY_LONG, WEEK_LONG, are_figures, show_clock
from hourcoin.words import NoWord, Words, read_rows


def show_condition(condition):
    """The words of a condition."""
    word, *told = condition
    if word == "clock":
        return " ".join([word] + [show_clock(clock) for clock in told])
    if word == "days":
        figures = "".join([str(weekday) for weekday in told[0]])
        return f"{word} {figures}"
    return " ".join([word] + [str(number) for number in told])


def show_rule(rule):
    """The row of a rule."""
    name, rank, sort, conditions = rule
    return " ".join(["rule", name, str(rank), sort] + [show_condition(one) for one in conditions])


def show_book(book):
    """The text of a book."""
    base, rates, rules = book
    rows = [f"rate {sort} {rate}" for sort, rate in rates]
    rows.append(f"base {base}")
    rows.extend([show_rule(rule) for rule in rules])
    return "\n".join(rows)


def take_weekdays(words):
    """The weekdays that the next word writes, a figure for each."""
    word = words.take()
    if not are_figures(word):
        raise NoWord("weekdays are to come")
    return tuple([int(figure) for figure in word])


def take_condition(words):
    """The condition that the next words write."""
    word = words.take()
    condition = (word,)
    if word == "clock":
        condition = (word, words.take_clock(), words.take_clock())
    elif word == "days":
        condition = (word, take_weekdays(words))
    elif word == "day":
        condition = (word, words.take_number(1, DAY_LONG))
    elif word == "week":
        condition = (word, words.take_number(1, WEEK_LONG))
    if not is_condition(condition):
        raise NoWord("a condition is to come")
    return condition


def take_rule(words):
    """What the next words, up to the last one, write as a rule; its conditions may be of like words."""
    name = words.take_name()
    rank = words.take_number(0, MOST_RANK)
    sort = words.take_name()
    conditions = []
    while words.has_more():
        conditions.append(take_condition(words))
    return name, rank, sort, tuple(conditions)


class BookReader:
    """A book as far as its rows were read: each beginning that is taken is that of a book's text."""

    def __init__(self):
        self.rates = []
        self.base = None
        self.rules = []

    def take_row(self, row):
        """One row more; NoWord where no book goes on so."""
        words = Words(row)
        word = words.take()
        if word == "rule" and self.base is not None:
            self.add_rule(take_rule(words))
        elif word == "rate" and self.base is None:
            self.add_rate(words.take_name(), words.take_number(0, MOST_RATE))
        elif word == "base" and self.base is None:
            self.base = self.with_rate(words.take_name())
        else:
            raise NoWord("no such row is to come")
        words.take_end()

    def with_rate(self, sort):
        """The sort, which has a rate."""
        if sort not in dict(self.rates):
            raise NoWord("a sort that has a rate is to come")
        return sort

    def add_rate(self, sort, rate):
        """The rate of a sort, which is above those ahead of it."""
        if self.rates and sort <= self.rates[-1][0]:
            raise NoWord("a sort above the others is to come")
        self.rates.append((sort, rate))

    def add_rule(self, rule):
        """One rule more, of a name unlike those ahead of it."""
        self.with_rate(rule[2])
        self.rules.append(rule)
        if not are_rules(tuple(self.rules)):
            raise NoWord("no such rule is to come")


def read_book(text):
    """The book that is so written, of anything; NoText at the first row with which none is."""
    reader = BookReader()
    many = read_rows(text, reader.take_row)
    if reader.base is None:
        raise NoText(many)
    return reader.base, tuple(reader.rates), tuple(reader.rules)
