"""The rows that a desk is told, read to tuples (word, name, told), told being what stands behind."""

from hourcoin.errors import NoRow
from hourcoin.kinds import are_rising
from hourcoin.logs import take_stamp
from hourcoin.roundings import MOST_GRACE, MOST_STEP
from hourcoin.times import DAY_LONG, LAST_WEEK, WEEK_DAYS
from hourcoin.words import NoWord, Words


def take_nothing(_):
    """No words more."""
    return None


def take_day(words):
    """A day."""
    return words.take_day()


def take_minute(words):
    """A minute, as a day and a clock."""
    return words.take_minute()


def take_told_stamp(words):
    """A stamp, as its word and its minute."""
    return take_stamp(words)


def take_week(words):
    """A week."""
    return words.take_number(0, LAST_WEEK)


def step_rounding(word, words):
    """A rounding by a step, of which the word was taken already."""
    if word not in ("down", "up", "near"):
        raise NoWord("a rounding is to come")
    return word, words.take_number(1, MOST_STEP)


def take_rounding(words):
    """A rounding."""
    word = words.take()
    if word != "graced":
        return step_rounding(word, words)
    grace = words.take_number(1, MOST_GRACE)
    return word, grace, step_rounding(words.take(), words)


def take_hand(words):
    """A most, a rounding for begins and one for ends."""
    most = words.take_number(1, DAY_LONG)
    begins = take_rounding(words)
    return most, begins, take_rounding(words)


def take_length(words):
    """How long a shift is."""
    return words.take_number(1, DAY_LONG)


def in_shift_order(shifts):
    """The shifts, which come in any order, as a tuple, rising; NoWord where one comes twice."""
    rows = sorted(shifts)
    if not are_rising(rows):
        raise NoWord("no shift is to come twice")
    return tuple(rows)


def take_single(words):
    """A day, and the shifts that it has of its own."""
    day = words.take_day()
    shifts = []
    while words.has_more():
        clock = words.take_clock()
        shifts.append((clock, take_length(words)))
    return day, in_shift_order(shifts)


def take_standing(words):
    """A day, and the shifts that stand from it on."""
    day = words.take_day()
    shifts = []
    while words.has_more():
        weekday = words.take_number(0, WEEK_DAYS - 1)
        clock = words.take_clock()
        shifts.append((weekday, clock, take_length(words)))
    return day, in_shift_order(shifts)


# By the first word of a row who takes what stands behind the name.
TAKERS = {
    "hand": take_hand, "leave": take_nothing,
    "in": take_minute, "out": take_minute, "strike": take_told_stamp,
    "feast": take_day, "ordinary": take_day,
    "single": take_single, "usual": take_day, "standing": take_standing,
    "book": take_week, "undo": take_nothing,
    "log": take_nothing, "worked": take_nothing, "counted": take_nothing, "sorts": take_nothing,
    "sheet": take_week, "due": take_week, "pay": take_week,
    "broken": take_nothing, "until": take_nothing,
}


def read_words(row):
    """The tuple (word, name, told) of a row's words; NoWord where they are none."""
    words = Words(row)
    word = words.take()
    if word not in TAKERS:
        raise NoWord("the word of a row is to come")
    name = words.take_name()
    taker = TAKERS[word]
    told = taker(words)
    words.take_end()
    return word, name, told


def read_row(row):
    """The tuple (word, name, told) of a row, of anything, of a book (week, text); or NoRow."""
    if not isinstance(row, str):
        raise NoRow("a row is a text")
    head, line_end, text = row.partition("\n")
    try:
        word, name, told = read_words(head)
    except NoWord:
        raise NoRow("no row has such words") from None
    if word == "book":
        told = (told, text)
    # A line end stands behind each row of a book, and behind no other one.
    if (word == "book") != (line_end == "\n"):
        raise NoRow("no such row has a line end, or none")
    return word, name, told
