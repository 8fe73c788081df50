"""What is answered to the rows that tell a hand its deeds, and to those that ask something of it."""

from hourcoin.counted import worked_lot
from hourcoin.logs import show_log
from hourcoin.rests import first_broken, may_go_on
from hourcoin.texts import read_book
from hourcoin.times import show_minute

DEEDS = ("in", "out", "strike", "feast", "ordinary", "single", "usual", "standing", "book")
DONE = "ok"
KNOWN = "known"
NONE = "none"


def done(hand, word, told):
    """Do the deed of a row: True, or False where what it tells stands already."""
    match word:
        case "in" | "out":
            return hand.tell((word, told))
        case "feast":
            return hand.feast(told)
        case "strike":
            hand.strike(told)
        case "ordinary":
            hand.ordinary(told)
        case "usual":
            hand.usual(told)
        case "single":
            day, shifts = told
            hand.single(day, shifts)
        case "standing":
            day, shifts = told
            hand.standing(day, shifts)
        case _:
            week, text = told
            hand.book_from(week, read_book(text))
    return True


def listed(rows):
    """Rows, each a list of what belongs to one, as one text."""
    return "; ".join([" ".join(row) for row in rows]) if rows else NONE


def show_line(line):
    """A line's day, sort, rate and minutes."""
    return [str(part) for part in line]


def show_bounds(stretch):
    """The first minute and the end of a stretch, or of what begins like one."""
    return [show_minute(minute) for minute in stretch[:2]]


def show_paid(coins, lines):
    """The coins and the lines of a payment."""
    return "; ".join([str(coins)] + [" ".join(show_line(line)) for line in lines])


def show_broken(lot, rests):
    """The first broken rest of worked minutes: minute, number and begin."""
    broken = first_broken(lot, rests)
    if broken is None:
        return NONE
    minute, number, begin = broken
    return f"{show_minute(minute)} {number} {show_minute(begin)}"


def show_until(lot, rests):
    """How long one may go on behind worked minutes; or Worn."""
    until = may_go_on(lot, rests) if lot else None
    return NONE if until is None else show_minute(until)


def asked(hand, word, week, rests):
    """What a row asks of a hand, by the desk's rests."""
    match word:
        case "log":
            return show_log(hand.stamps())
        case "worked":
            return listed([show_bounds(stretch) + [stretch[2]] for stretch in hand.worked()])
        case "counted":
            return listed([show_bounds(stretch) for stretch in hand.lot()])
        case "sorts":
            return listed([show_bounds(row) + [row[2]] for row in hand.sorts()])
        case "sheet":
            return listed([show_line(line) for line in hand.week_lines(week)])
        case "due":
            return str(hand.week_due(week))
        case "pay":
            coins, lines = hand.pay(week)
            return show_paid(coins, lines)
        case "broken":
            return show_broken(worked_lot(hand.worked()), rests)
        case _:
            return show_until(worked_lot(hand.worked()), rests)


def answer(hand, word, told, rests):
    """The answer to a row that is told to a hand, or asked of it."""
    if word in DEEDS:
        return DONE if done(hand, word, told) else KNOWN
    if word == "undo":
        return DONE if hand.undo() else NONE
    return asked(hand, word, told, rests)
