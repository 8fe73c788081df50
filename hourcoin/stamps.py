"""Stamps, the order in which they are gone through, and the stretches of work that they make."""

from hourcoin.kinds import is_number_within, is_row
from hourcoin.plans import shifts_on
from hourcoin.times import DAY_LONG, LAST_MINUTE, day_of


def is_stamp(thing):
    """Whether a thing is a tuple (word, minute), word in or out."""
    if not is_row(thing, 2):
        return False
    word, minute = thing
    return word in ("in", "out") and is_number_within(minute, 0, LAST_MINUTE)


def turn_of(stamp):
    """What tells by comparison which of two stamps is gone through first: of one minute the out."""
    word, minute = stamp
    return minute, word == "in"


def in_order(stamps):
    """The stamps, each once, by minutes, of one minute the out first."""
    rows = sorted({turn_of(stamp) for stamp in stamps})
    return [("in" if coming else "out", minute) for minute, coming in rows]


class Walk:
    """A hand on its way through its stamps, and the stretches that it has had so far."""

    def __init__(self, plan, most):
        self.plan = plan
        self.most = most
        self.shifts = {}
        self.found = []
        # Whether the hand is in, and from when on it is in or out.
        self.inside = False
        self.since = 0

    def shifts_of(self, day):
        """The shifts of a day, for which the plan is asked but once."""
        if day not in self.shifts:
            self.shifts[day] = shifts_on(self.plan, day)
        return self.shifts[day]

    def shift_at(self, minute):
        """The least shift in which a minute lies, None where there is none."""
        # No shift is longer than a day, so of earlier shifts only those of the day ahead run in.
        for day in (day_of(minute) - 1, day_of(minute)):
            for first, behind in self.shifts_of(day):
                if first <= minute < behind:
                    return first, behind
        return None

    def guessed_end(self, minute):
        """The guessed end for the minute at which the hand came in."""
        shift = self.shift_at(minute)
        return minute + self.most if shift is None else shift[1]

    def guessed_begin(self, minute):
        """The guessed begin for the minute at which the hand went out."""
        # The shifts that end at a minute, or have it but not as their first one, are those that
        # have the minute ahead of it.
        shift = self.shift_at(minute - 1)
        return max(minute - self.most, 0) if shift is None else shift[0]

    def come(self, minute):
        """The hand tells that it comes in."""
        if self.inside:
            self.found.append((self.since, min(self.guessed_end(self.since), minute), "end"))
        self.inside = True
        self.since = minute

    def go(self, minute):
        """The hand tells that it goes out."""
        if self.inside and minute - self.since <= DAY_LONG:
            self.found.append((self.since, minute, "told"))
        else:
            self.leave()
            begin = max(self.guessed_begin(minute), self.since)
            if begin < minute:
                self.found.append((begin, minute, "begin"))
        self.inside = False
        self.since = minute

    def leave(self):
        """The hand, if it is in, goes out at the guessed end."""
        if self.inside:
            end = self.guessed_end(self.since)
            self.found.append((self.since, end, "end"))
            self.inside = False
            self.since = end


def stretches(stamps, plan, most):
    """The stretches (first, end, word) that stamps in any order make, rising."""
    walk = Walk(plan, most)
    for word, minute in in_order(stamps):
        if word == "in":
            walk.come(minute)
        else:
            walk.go(minute)
    walk.leave()
    return walk.found
