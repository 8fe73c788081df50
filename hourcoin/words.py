"""Rows read word by word, and texts read row by row."""

from hourcoin.books import is_name
from hourcoin.errors import NoText
from hourcoin.times import DAY_LONG, LAST_DAY, read_clock, read_number


class NoWord(Exception):
    """A row has no such word as is to come next; whoever reads the row tells of what it is no row."""


class Words:
    """The words of a row, parted by single blanks, that are taken one by one."""

    def __init__(self, row):
        self.words = row.split(" ")
        self.taken = 0

    def has_more(self):
        """Whether there are words that were not taken yet."""
        return self.taken < len(self.words)

    def take(self):
        """The next word, whatever it is."""
        if not self.has_more():
            raise NoWord("a word more is to come")
        self.taken += 1
        return self.words[self.taken - 1]

    def take_name(self):
        """The next word, a name."""
        word = self.take()
        if not is_name(word):
            raise NoWord("a name is to come")
        return word

    def take_number(self, least, most):
        """The next word, a number from the least to the most."""
        number = read_number(self.take(), most)
        if number is None or number < least:
            raise NoWord("a number is to come")
        return number

    def take_clock(self):
        """The next word, a clock."""
        clock = read_clock(self.take())
        if clock is None:
            raise NoWord("a clock is to come")
        return clock

    def take_day(self):
        """The next word, a day."""
        return self.take_number(0, LAST_DAY)

    def take_minute(self):
        """The next two words, a day and a clock, as a minute."""
        day = self.take_day()
        return DAY_LONG * day + self.take_clock()

    def take_end(self):
        """The end of the row."""
        if self.has_more():
            raise NoWord("no word is to come")


def read_rows(text, take_row):
    """How many rows a text has, each of which is taken; NoText at the first at which NoWord comes."""
    if not isinstance(text, str):
        raise NoText(0)
    rows = text.split("\n") if text else []
    for at, row in enumerate(rows):
        try:
            take_row(row)
        except NoWord:
            raise NoText(at) from None
    return len(rows)
