"""A desk, which keeps hands by names, and answers rows with texts."""

from hourcoin.answers import DONE, answer
from hourcoin.deskrows import read_row
from hourcoin.errors import NoHand, Taken
from hourcoin.hands import Hand

EMPTY_PLAN = ((), ())


class Desk:
    """A desk with a book, which each hand has at first, and with rests."""

    def __init__(self, book, rests):
        self.book = book
        self.rests = list(rests)
        self.hands = {}

    def hire(self, name, told):
        """A hand comes by a name by which none stands."""
        if name in self.hands:
            raise Taken(name)
        most, begins, ends = told
        self.hands[name] = Hand(EMPTY_PLAN, most, begins, ends, self.book)

    def say(self, row):
        """The answer to a row, of anything; or NoRow, NoHand, Taken, and what the hand refuses."""
        word, name, told = read_row(row)
        if word == "hand":
            self.hire(name, told)
            return DONE
        if name not in self.hands:
            raise NoHand(name)
        if word == "leave":
            del self.hands[name]
            return DONE
        return answer(self.hands[name], word, told, self.rests)
