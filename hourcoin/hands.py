"""A hand: its stamps, plan, feasts and books, what it worked by them, and what it is paid."""

from hourcoin.counted import counted
from hourcoin.errors import Early, NoFeast, NoStamp
from hourcoin.lots import both
from hourcoin.paying import difference, lines, worth
from hourcoin.plans import with_single, with_standing, without_single
from hourcoin.rising import rows_to, with_row
from hourcoin.roundings import rounding_of
from hourcoin.sorting import by_weeks, joined, sorted_out
from hourcoin.stamps import in_order, stretches
from hourcoin.times import WEEK_LONG

COIN = 60


def put(table, key, thing):
    """A table has a thing by a key, or none where it is None."""
    if thing is None:
        del table[key]
    else:
        table[key] = thing


class Hand:
    """A hand that tells when it comes and goes; each deed but a payment can be undone."""

    def __init__(self, plan, most, begins, ends, book):
        self.most = most
        self.begins = begins
        self.ends = ends
        # All that deeds change: stamps and feasts as keys, the plan, and books by the week from
        # which each counts. Plans and books are tuples, so a former one stays as it was.
        self.told = {}
        self.festive = {}
        self.terms = {"plan": plan, "books": ((0, book),)}
        # For each deed that isn't undone the table, the key, and what it had by the key ahead of it.
        self.deeds = []
        self.paid = []
        self.paydays = []

    def change(self, table, key, thing):
        """Do a deed, by which a table has a thing by a key."""
        self.deeds.append((table, key, table.get(key)))
        put(table, key, thing)

    def tell(self, stamp):
        """Tell a stamp: True, or False where it stands already."""
        if stamp in self.told:
            return False
        self.change(self.told, stamp, True)
        return True

    def strike(self, stamp):
        """Take a stamp back; NoStamp where it does not stand."""
        if stamp not in self.told:
            raise NoStamp(f"no such stamp stands: {stamp}")
        self.change(self.told, stamp, None)

    def feast(self, day):
        """Make a day a feast: True, or False where it is one already."""
        if day in self.festive:
            return False
        self.change(self.festive, day, True)
        return True

    def ordinary(self, day):
        """Make a day no feast any more; NoFeast where it is none."""
        if day not in self.festive:
            raise NoFeast(f"day {day} is no feast")
        self.change(self.festive, day, None)

    def standing(self, day, shifts):
        """From a day on the plan has these shifts."""
        self.change(self.terms, "plan", with_standing(self.terms["plan"], day, shifts))

    def single(self, day, shifts):
        """On a single day the plan has these shifts."""
        self.change(self.terms, "plan", with_single(self.terms["plan"], day, shifts))

    def usual(self, day):
        """A day has no shifts of its own any more; NoSingle where it has none."""
        self.change(self.terms, "plan", without_single(self.terms["plan"], day))

    def book_from(self, week, book):
        """From a week on this book counts, up to the next one."""
        self.change(self.terms, "books", with_row(self.terms["books"], week, book))

    def undo(self):
        """Undo the last deed that isn't undone: True, or False where none is left."""
        if not self.deeds:
            return False
        table, key, thing = self.deeds.pop()
        put(table, key, thing)
        return True

    def stamps(self):
        """The stamps that stand, as they are gone through."""
        return in_order(list(self.told))

    def worked(self):
        """The stretches (first, end, word) that the stamps make."""
        return stretches(list(self.told), self.terms["plan"], self.most)

    def feasts(self):
        """The feasts, rising."""
        return sorted(self.festive)

    def lot(self):
        """The counted minutes."""
        plan = self.terms["plan"]
        return counted(self.worked(), rounding_of(self.begins, plan), rounding_of(self.ends, plan))

    def book_of(self, week):
        """The book that counts in a week."""
        books = self.terms["books"]
        return books[rows_to(books, week) - 1][1]

    def sorts(self):
        """The counted minutes sorted, those of each week by its book; or Quarrel."""
        rows = []
        for week, lot in by_weeks(self.lot()):
            rows.extend(sorted_out(lot, self.feasts(), self.book_of(week)))
        return joined(rows)

    def lines_of(self, week, lot):
        """The lines of counted minutes of a week; or Quarrel."""
        return lines(lot, self.feasts(), self.book_of(week))

    def week_lines(self, week):
        """The lines of the counted minutes of a week; or Quarrel."""
        begin = WEEK_LONG * week
        return self.lines_of(week, both(self.lot(), [(begin, begin + WEEK_LONG)]))

    def week_due(self, week):
        """The sixtieths that a week is due; or Quarrel."""
        return worth(self.week_lines(week))

    def lines_below(self, week):
        """The lines of the counted minutes of all weeks below one; or Quarrel."""
        rows = []
        for earlier, lot in by_weeks(self.lot()):
            if earlier < week:
                rows.extend(self.lines_of(earlier, lot))
        return rows

    def pay(self, week):
        """Pay all that is due of the weeks below one: the tuple (coins, lines); Early, or Quarrel."""
        if self.paydays and week < self.paydays[-1][0]:
            raise Early(self.paydays[-1][0])
        rows = self.lines_below(week)
        more = difference(self.paid, rows)
        coins = worth(rows) // COIN - worth(self.paid) // COIN
        self.paid = rows
        self.paydays.append((week, coins))
        return coins, more

    def payments(self):
        """The payments (week, coins), as they were made."""
        return list(self.paydays)

    def left(self):
        """The sixtieths, 0 to 59, that count as paid, but make no whole coin yet."""
        return worth(self.paid) % COIN
