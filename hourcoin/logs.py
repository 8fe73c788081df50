"""Stamps as texts, a row for each, as they are gone through."""

from hourcoin.stamps import in_order, turn_of
from hourcoin.times import show_minute
from hourcoin.words import NoWord, Words, read_rows


def take_stamp(words):
    """The stamp that the next three words write."""
    word = words.take()
    if word not in ("in", "out"):
        raise NoWord("in or out is to come")
    return word, words.take_minute()


def show_log(stamps):
    """The text of stamps in any order, each once."""
    return "\n".join([f"{word} {show_minute(minute)}" for word, minute in in_order(stamps)])


class LogReader:
    """The stamps of a text as far as its rows were read."""

    def __init__(self):
        self.found = []

    def take_row(self, row):
        """One row more; NoWord where no log goes on so."""
        words = Words(row)
        stamp = take_stamp(words)
        words.take_end()
        if self.found and turn_of(stamp) <= turn_of(self.found[-1]):
            raise NoWord("a stamp that is gone through later is to come")
        self.found.append(stamp)


def read_log(text):
    """The stamps that are so written, of anything; NoText at the first row with which none are."""
    reader = LogReader()
    read_rows(text, reader.take_row)
    return reader.found
