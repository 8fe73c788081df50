"""The refusals: HourError, and straight under it a class for each kind.

What a refusal is made with is kept by Python as its message, too.
"""


class HourError(ValueError):
    """Any refusal."""


class Quarrel(HourError):
    """Rules of the greatest rank tell unlike sorts."""

    def __init__(self, names, minute):
        self.names = names
        self.minute = minute


class Unsound(HourError):
    """A book's rules quarrel, where two books are held against each other."""

    def __init__(self, number):
        self.number = number


class Worn(HourError):
    """A rest is broken already."""

    def __init__(self, minute):
        self.minute = minute


class Early(HourError):
    """A week lies below the one up to which was paid."""

    def __init__(self, week):
        self.week = week


class NoText(HourError):
    """A text is none that is so written."""

    def __init__(self, row):
        self.row = row


class NoHand(HourError):
    """No hand stands by a name."""

    def __init__(self, name):
        self.name = name


class Taken(HourError):
    """A hand stands by a name already."""

    def __init__(self, name):
        self.name = name


class NoStamp(HourError):
    """A stamp is to go that does not stand."""


class NoFeast(HourError):
    """A feast is to go that does not stand."""


class NoSingle(HourError):
    """A day's own shifts are to go that do not stand."""


class NoRow(HourError):
    """What a desk is told is none of its rows."""
