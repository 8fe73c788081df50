"""Minutes, their days, clocks, weeks, weekdays and places, and minutes as texts."""

from hourcoin.errors import NoText

HOUR_LONG = 60
DAY_LONG = 1440
WEEK_DAYS = 7
WEEK_LONG = 10080
LAST_DAY = 694443
LAST_WEEK = 99206
LAST_MINUTE = 999999359


def day_of(minute):
    """The day of a minute."""
    return minute // DAY_LONG


def clock_of(minute):
    """How many minutes of its day lie ahead of a minute."""
    return minute % DAY_LONG


def week_of(minute):
    """The week of a minute."""
    return day_of(minute) // WEEK_DAYS


def weekday_of(minute):
    """The weekday of a minute, from 0 to 6."""
    return day_of(minute) % WEEK_DAYS


def place_of(minute):
    """How many minutes of its week lie ahead of a minute."""
    return DAY_LONG * weekday_of(minute) + clock_of(minute)


def show_clock(clock):
    """A clock as HH:MM."""
    return f"{clock // HOUR_LONG:02d}:{clock % HOUR_LONG:02d}"


def show_minute(minute):
    """A minute, or a bound beyond the last one, as its day, a blank and its clock."""
    return f"{day_of(minute)} {show_clock(clock_of(minute))}"


def are_figures(text):
    """Whether a text is of one or more figures from 0 to 9."""
    # isdigit alone takes the figures of other scripts, too.
    return text.isascii() and text.isdigit()


def read_number(text, most):
    """The number from 0 to the most that is so written in figures; None where it is none."""
    # Python reads no number of thousands of figures, so their count is looked at first.
    if len(text) > len(str(most)) or not are_figures(text):
        return None
    number = int(text)
    return number if number <= most and str(number) == text else None


def read_clock(text):
    """The clock that is so written as HH:MM; None where it is none."""
    if len(text) != 5 or not are_figures(text[:2] + text[3:]):
        return None
    clock = HOUR_LONG * int(text[:2]) + int(text[3:])
    return clock if clock < DAY_LONG and show_clock(clock) == text else None


def read_minute(text):
    """The minute that is so written; NoText of anything that is no minute's text."""
    if not isinstance(text, str):
        raise NoText(0)
    day_text, _, clock_text = text.partition(" ")
    day = read_number(day_text, LAST_DAY)
    clock = read_clock(clock_text)
    if day is None or clock is None:
        raise NoText(0)
    return DAY_LONG * day + clock
