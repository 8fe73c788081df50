"""Point [31], the rows of the interface, and what [2] and [3] say of them: a desk."""

import copy
import random
import unittest

from hourcoin.desk import Desk
from hourcoin.errors import (Early, HourError, NoFeast, NoHand, NoRow, NoSingle, NoStamp, NoText, Quarrel, Taken,
                             Worn)
from hourcoin.hands import Hand
from hourcoin.logs import show_log
from hourcoin.rests import first_broken, may_go_on
from hourcoin.texts import show_book
from hourcoin.times import show_minute
from tests.test_books import ruled
from tests.test_cases import rule
from tests.test_hands import EMPTY, LATE, PLAIN, do, some_deed
from tests.test_lots import lot_by_minutes, minutes_of
from tests.things import odd_things

LAST = 999999359
RESTS = [("work", 360, 30), ("length", 600, 660)]
QUARRELS = ruled(rule("a", 1, "late"), rule("b", 1, "rest", ("clock", 600, 700)))
HAND = "hand ann 60 down 1 down 1"
# A row of each kind, of a hand that stands.
ROWS = [
    "hand bob 480 up 15 down 15", "hand cy 1 graced 5 near 15 graced 120 down 240", "leave ann", "in ann 0 08:00",
    "out ann 694443 23:59", "strike ann in 12 07:05", "strike ann out 12 07:05", "feast ann 3", "ordinary ann 3",
    "single ann 3", "single ann 3 08:00 240 13:00 240", "usual ann 3", "standing ann 0",
    "standing ann 0 0 08:00 240 6 13:00 1440", "book ann 2\n" + show_book(LATE), "undo ann", "log ann", "worked ann",
    "counted ann", "sorts ann", "sheet ann 0", "due ann 99206", "pay ann 5", "broken ann", "until ann",
]


def desk_of(*rows, book=PLAIN, rests=()):
    """A desk that was told these rows, of a hand ann and what else they tell."""
    desk = Desk(book, list(rests))
    for row in (HAND, *rows):
        desk.say(row)
    return desk


def said(desk, row):
    """The answer, or the class of the refusal and its fields."""
    try:
        answer = desk.say(row)
    except HourError as refusal:
        return refusal.__class__, vars(refusal)
    assert answer.__class__ is str
    return answer


def all_said(desk, name):
    """All that is answered of a hand, of a few weeks."""
    rows = [f"{word} {name}" for word in ("log", "worked", "counted", "sorts", "broken", "until")]
    rows += [f"{word} {name} {week}" for word in ("sheet", "due") for week in range(4)]
    return [said(desk, row) for row in rows]


class Said(unittest.TestCase):

    def check(self, desk, *rows):
        """Each two of the rows are what is told, and what is answered or refused."""
        for row, wanted in zip(rows[::2], rows[1::2]):
            with self.subTest(row):
                self.assertEqual(said(desk, row), wanted)


class Hands(Said):

    def test_they_come_and_go(self):
        desk = Desk(PLAIN, [])
        self.check(desk, "log ann", (NoHand, {"name": "ann"}), "leave ann", (NoHand, {"name": "ann"}),
                   "hand ann 60 down 15 up 15", "ok", "hand bob 60 down 15 up 15", "ok",
                   "hand ann 60 down 15 up 15", (Taken, {"name": "ann"}), "in ann 0 08:00", "ok", "pay ann 1",
                   "600; 0 base 600 60", "leave ann", "ok", "log ann", (NoHand, {"name": "ann"}),
                   "leave ann", (NoHand, {"name": "ann"}), "log bob", "", "leave bob", "ok")

    def test_one_that_comes_again_has_nothing_of_what_it_had(self):
        desk = desk_of("in ann 0 08:00", "feast ann 3", "single ann 0 08:00 5", "pay ann 9", "leave ann",
                       "hand ann 30 down 1 down 1")
        self.check(desk, "log ann", "", "undo ann", "none", "pay ann 1", "0", "ordinary ann 3", (NoFeast, {}),
                   "usual ann 0", (NoSingle, {}), "in ann 0 08:00", "ok", "worked ann", "0 08:00 0 08:30 end",
                   "pay ann 1", "300; 0 base 600 30")

    def test_names_of_one_and_of_eight_letters(self):
        for name in ("a", "z", "abcdefgh", "zzzzzzzz", "hand", "in", "none", "undo", "book"):
            self.check(Desk(PLAIN, []), f"hand {name} 60 down 1 down 1", "ok", f"in {name} 0 00:00", "ok",
                       f"log {name}", "in 0 00:00", f"hand {name} 60 down 1 down 1", (Taken, {"name": name}),
                       f"leave {name}", "ok", f"undo {name}", (NoHand, {"name": name}))

    def test_most_and_roundings(self):
        for most, begins, ends, wanted in (
                ("1", "down 1", "down 1", "0 08:04 0 08:05"), ("1440", "down 1", "up 1", "0 08:04 1 08:04"),
                ("60", "up 15", "down 15", "0 08:15 0 09:00"), ("60", "down 15", "up 15", "0 08:00 0 09:15"),
                ("60", "near 10", "near 240", "0 08:00 0 08:00"), ("60", "down 240", "up 240", "0 08:00 0 12:00")):
            desk = Desk(PLAIN, [])
            self.check(desk, f"hand ann {most} {begins} {ends}", "ok", "in ann 0 08:04", "ok")
            self.check(desk, "counted ann", "none" if wanted[:7] == wanted[8:] else wanted)
        desk = Desk(PLAIN, [])
        self.check(desk, "hand ann 60 graced 5 up 15 graced 1 down 15", "ok", "in ann 0 08:04", "ok",
                   "out ann 0 12:01", "ok", "counted ann", "0 08:15 0 12:00", "single ann 0 08:00 241", "ok",
                   "counted ann", "0 08:00 0 12:01", "single ann 0 08:00 242", "ok", "counted ann",
                   "0 08:00 0 12:02", "single ann 0 08:00 243", "ok", "counted ann", "0 08:00 0 12:00")

    def test_the_desks_book_and_an_empty_plan(self):
        desk = desk_of("in ann 0 23:00", book=LATE)
        self.check(desk, "worked ann", "0 23:00 1 00:00 end", "sorts ann", "0 23:00 1 00:00 late", "due ann 0", "54000")


class Deeds(Said):

    def test_stamps(self):
        self.check(desk_of(), "in ann 0 08:00", "ok", "in ann 0 08:00", "known", "out ann 0 08:00", "ok",
                   "out ann 0 08:00", "known", "log ann", "out 0 08:00\nin 0 08:00", "strike ann out 0 08:00", "ok",
                   "strike ann out 0 08:00", (NoStamp, {}), "strike ann in 0 08:01", (NoStamp, {}),
                   "log ann", "in 0 08:00", "undo ann", "ok", "undo ann", "ok", "undo ann", "ok", "undo ann", "none",
                   "log ann", "", "out ann 694443 23:59", "ok", "in ann 0 00:00", "ok",
                   "log ann", "in 0 00:00\nout 694443 23:59")

    def test_feasts(self):
        desk = desk_of("in ann 0 08:00", book=ruled(rule("high", 1, "late", ("feast",))))
        self.check(desk, "feast ann 0", "ok", "feast ann 0", "known", "feast ann 694443", "ok", "sorts ann",
                   "0 08:00 0 09:00 late", "ordinary ann 0", "ok", "ordinary ann 0", (NoFeast, {}),
                   "sorts ann", "0 08:00 0 09:00 base", "undo ann", "ok", "sorts ann", "0 08:00 0 09:00 late")

    def test_shifts(self):
        self.check(desk_of("in ann 0 08:00", "in ann 7 08:00"), "single ann 0 07:00 120", "ok", "worked ann",
                   "0 08:00 0 09:00 end; 7 08:00 7 09:00 end", "single ann 0 07:00 75", "ok", "worked ann",
                   "0 08:00 0 08:15 end; 7 08:00 7 09:00 end", "standing ann 0 0 08:00 30", "ok", "worked ann",
                   "0 08:00 0 08:15 end; 7 08:00 7 08:30 end", "usual ann 0", "ok", "worked ann",
                   "0 08:00 0 08:30 end; 7 08:00 7 08:30 end", "usual ann 0", (NoSingle, {}), "single ann 7", "ok",
                   "worked ann", "0 08:00 0 08:30 end; 7 08:00 7 09:00 end", "standing ann 0", "ok", "worked ann",
                   "0 08:00 0 09:00 end; 7 08:00 7 09:00 end")

    def test_numbers_at_their_bounds(self):
        desk = desk_of()
        for length, wanted in (("1", "0 08:01"), ("1440", "1 08:00")):
            self.check(desk_of("in ann 0 08:00"), f"single ann 0 08:00 {length}", "ok",
                       "worked ann", f"0 08:00 {wanted} end", f"standing ann 0 6 00:00 {length} 0 08:00 {length}", "ok",
                       "usual ann 0", "ok", "worked ann", f"0 08:00 {wanted} end")
        for row in ("single ann 694443 00:00 1440", "standing ann 694443 6 23:59 1440", "usual ann 694443",
                    "feast ann 694443", "ordinary ann 694443", "feast ann 0", "single ann 0", "usual ann 0",
                    "standing ann 0", "book ann 99206\n" + show_book(LATE), "book ann 0\n" + show_book(LATE),
                    "hand bob 1 down 1 up 240", "hand cy 1440 graced 1 near 1 graced 120 near 240"):
            self.check(desk, row, "ok")
        self.check(desk, "due ann 99206", "0", "sheet ann 99206", "none", "pay ann 99206", "0", "sheet ann 0", "none")

    def test_shifts_in_any_order_each_once(self):
        rows = ["07:00 75", "07:00 90", "06:30 200", "23:59 1440"]
        wanted = None
        chance = random.Random(70)
        for _ in range(20):
            chance.shuffle(rows)
            desk = desk_of("in ann 0 08:00", "single ann 0 " + " ".join(rows))
            wanted = wanted or all_said(desk, "ann")
            self.assertEqual(all_said(desk, "ann"), wanted)
            weekly = [f"{chance.randrange(1, 7)} {row}" for row in rows] + [f"0 {row}" for row in rows]
            chance.shuffle(weekly)
            desk = desk_of("in ann 0 08:00", "standing ann 0 " + " ".join(dict.fromkeys(weekly)))
            self.assertEqual(all_said(desk, "ann"), wanted)
            self.check(desk, "single ann 0 " + " ".join(rows + rows[:1]), (NoRow, {}),
                       "standing ann 0 " + " ".join(["0 " + row for row in rows + rows[:1]]), (NoRow, {}))
        self.assertEqual(wanted[1], "0 08:00 0 09:50 end")

    def test_books(self):
        desk = desk_of("in ann 0 23:00", "in ann 7 23:00")
        self.check(desk, "book ann 1\n" + show_book(LATE), "ok", "sorts ann",
                   "0 23:00 1 00:00 base; 7 23:00 8 00:00 late", "book ann 0\nrate x 5\nbase x", "ok",
                   "sheet ann 0", "0 x 5 60", "book ann 99206\nrate x 5\nbase x", "ok", "undo ann", "ok",
                   "undo ann", "ok", "sheet ann 0", "0 base 600 60", "undo ann", "ok", "sheet ann 1", "7 base 600 60")

    def test_a_books_text_that_is_none(self):
        desk = desk_of("in ann 0 23:00", "pay ann 1")
        for text, row in (("", 0), ("rate a 5", 1), ("base a", 0), ("rate a 5\nbase b", 1), ("rate a 5\nbase a\n", 2),
                          ("\nrate a 5\nbase a", 0), (" ", 0), ("rate b 5\nrate a 5\nbase a", 1)):
            self.check(desk, "book ann 0\n" + text, (NoText, {"row": row}))
        self.check(desk, "sheet ann 0", "0 base 600 60", "undo ann", "ok", "undo ann", "none")

    def test_undo_goes_by_hands(self):
        desk = desk_of("hand bob 60 down 1 down 1", "in ann 0 08:00", "in bob 0 09:00")
        self.check(desk, "undo ann", "ok", "undo ann", "none", "log bob", "in 0 09:00", "undo bob", "ok",
                   "undo bob", "none")


class Asked(Said):

    def test_nothing(self):
        self.check(desk_of(rests=RESTS), "log ann", "", "worked ann", "none", "counted ann", "none",
                   "sorts ann", "none", "sheet ann 0", "none", "due ann 0", "0", "pay ann 0", "0",
                   "broken ann", "none", "until ann", "none")

    def test_worked_and_counted(self):
        desk = Desk(PLAIN, [])
        self.check(desk, "hand ann 60 up 15 down 15", "ok", "in ann 0 08:04", "ok", "out ann 0 12:13", "ok",
                   "out ann 1 01:10", "ok", "in ann 693000 23:30", "ok", "worked ann",
                   "0 08:04 0 12:13 told; 1 00:10 1 01:10 begin; 693000 23:30 693001 00:30 end", "counted ann",
                   "0 08:15 0 12:00; 1 00:15 1 01:00; 693000 23:30 693001 00:30")

    def test_bounds_beyond_the_last_minute(self):
        desk = desk_of("in ann 694443 23:59", rests=RESTS)
        self.check(desk, "worked ann", "694443 23:59 694444 00:59 end", "counted ann", "694443 23:59 694444 00:59",
                   "until ann", "694444 05:59", "broken ann", "none")

    def test_sorts_sheet_and_due(self):
        book = ruled(rule("night", 1, "late", ("clock", 1320, 360)), rule("eve", 1, "late", ("clock", 1200, 1320)),
                     rule("high", 2, "rest", ("feast",), ("clock", 0, 60)))
        desk = desk_of("in ann 6 19:00", "out ann 7 02:00", "feast ann 7", book=book)
        self.check(desk, "sorts ann", "6 19:00 6 20:00 base; 6 20:00 6 22:00 late; 6 22:00 7 00:00 late; "
                   "7 00:00 7 01:00 rest; 7 01:00 7 02:00 late", "sheet ann 0", "6 base 600 60; 6 late 900 240",
                   "sheet ann 1", "7 late 900 60; 7 rest 0 60", "sheet ann 2", "none", "due ann 0", "252000",
                   "due ann 1", "54000", "due ann 99206", "0")

    def test_pay(self):
        desk = desk_of("in ann 0 08:00", "out ann 0 10:00", "in ann 7 23:00", "out ann 8 01:00")
        self.check(desk, "pay ann 0", "0", "pay ann 1", "1200; 0 base 600 120", "pay ann 1", "0",
                   "pay ann 99206", "1200; 7 base 600 60; 8 base 600 60", "strike ann out 0 10:00", "ok",
                   "pay ann 99206", "-600; 0 base 600 -60", "pay ann 99205", (Early, {"week": 99206}),
                   "book ann 0\nrate base 0\nrate tea 1\nbase base", "ok",
                   "pay ann 99206", "-1800; 0 base 0 60; 0 base 600 -60; 7 base 0 60; 7 base 600 -60; "
                   "8 base 0 60; 8 base 600 -60", "due ann 0", "0", "undo ann", "ok",
                   "pay ann 99206", "1800; 0 base 0 -60; 0 base 600 60; 7 base 0 -60; 7 base 600 60; "
                   "8 base 0 -60; 8 base 600 60")

    def test_quarrels(self):
        desk = desk_of("in ann 7 09:50", "out ann 7 10:50", book=QUARRELS)
        quarrel = (Quarrel, {"names": ("a", "b"), "minute": 10680})
        self.check(desk, "sorts ann", quarrel, "sheet ann 1", quarrel, "due ann 1", quarrel, "pay ann 2", quarrel,
                   "sheet ann 0", "none", "due ann 0", "0", "pay ann 1", "0", "counted ann", "7 09:50 7 10:50",
                   "pay ann 0", (Early, {"week": 1}))

    def test_rests(self):
        desk = desk_of("in ann 1 08:00", "out ann 1 12:00", rests=RESTS)
        self.check(desk, "broken ann", "none", "until ann", "1 14:00", "in ann 1 12:10", "ok", "until ann", "1 14:10",
                   "out ann 1 14:10", "ok", "broken ann", "none", "until ann", "1 14:10", "in ann 1 14:30", "ok",
                   "out ann 1 14:40", "ok", "broken ann", "1 14:30 0 1 08:00", "until ann", (Worn, {"minute": 2310}),
                   "strike ann in 1 14:30", "ok", "strike ann out 1 14:40", "ok", "in ann 1 17:00", "ok",
                   "out ann 1 18:01", "ok", "broken ann", "1 18:00 1 1 08:00", "until ann", (Worn, {"minute": 2520}))

    def test_rests_of_the_stretches_not_of_what_is_counted(self):
        desk = Desk(PLAIN, [("work", 60, 30)])
        self.check(desk, "hand ann 60 up 240 down 240", "ok", "in ann 0 08:01", "ok", "out ann 0 09:02", "ok",
                   "counted ann", "none", "broken ann", "0 09:01 0 0 08:01", "until ann", (Worn, {"minute": 541}),
                   "strike ann out 0 09:02", "ok", "until ann", "0 09:01")

    def test_stretches_that_touch_are_one_for_rests(self):
        desk = desk_of("in ann 0 08:00", "out ann 0 09:00", "in ann 0 09:00", "out ann 0 09:31",
                       rests=[("work", 90, 1)])
        self.check(desk, "worked ann", "0 08:00 0 09:00 told; 0 09:00 0 09:31 told", "broken ann", "0 09:30 0 0 08:00",
                   "strike ann out 0 09:31", "ok", "broken ann", "0 09:30 0 0 08:00")

    def test_no_rests(self):
        desk = desk_of("in ann 0 08:00", "out ann 1 08:00")
        self.check(desk, "broken ann", "none", "until ann", "none")


class NoRows(Said):

    def test_a_row_of_each_kind_is_one(self):
        for row in ROWS:
            answer = said(desk_of(), row)
            if isinstance(answer, tuple):
                self.assertIn(answer[0], (NoStamp, NoFeast, NoSingle), row)

    def refused(self, row):
        desk = desk_of("in ann 0 08:00", "feast ann 3", "single ann 3")
        ahead = all_said(desk, "ann")
        self.check(desk, row, (NoRow, {}))
        self.assertEqual(all_said(desk, "ann"), ahead)
        self.assertEqual([said(desk, "undo ann") for _ in range(4)], ["ok", "ok", "ok", "none"])

    def test_anything(self):
        for thing in odd_things() + [("log", "ann"), ["log ann"], {"log ann": 1}, b"log ann", ("log ann",)]:
            kept = copy.deepcopy(thing)
            self.refused(thing)
            self.assertEqual(thing, kept)

    def test_words_left_out_too_many_or_otherwise(self):
        for row in ROWS:
            head, end, text = row.partition("\n")
            words = head.split(" ")
            bent = [words[:-1], words + ["0"], words + ["ann"], words + [""], ["", *words],
                    [words[0].upper(), *words[1:]],
                    [words[0] + "s", *words[1:]], [words[0][:-1], *words[1:]], words[1:], [words[0], *words[2:]],
                    [words[0], words[1].upper(), *words[2:]], [words[0], words[1] + "1", *words[2:]],
                    [words[0], "abcdefghi", *words[2:]], [words[0], "", *words[1:]], [words[1], words[0], *words[2:]]]
            for other in bent:
                other = " ".join(other)
                # Of shifts, some may be left out, and a 0 is a shift's weekday, but no shift.
                if other not in ROWS and other + end + text not in ROWS and other + end + text != "single ann 3 08:00":
                    self.refused(other + end + text)
            for sign in ("\n", " ", "\t", ";", "\r", "\n\n"):
                if not end:
                    self.refused(head + sign)
                    self.refused(sign + head)
                    self.refused(head.replace(" ", sign * 2, 1))
                self.refused(sign + row)

    def test_line_ends(self):
        for row in ("book ann 2", "book ann 2 \nrate a 5\nbase a", "book ann\n2\nrate a 5\nbase a", "log ann\n",
                    "book ann 2 rate a 5\nbase a", "\nbook ann 2\nrate a 5\nbase a", "book\nann 2\nrate a 5\nbase a",
                    "log ann\nlog ann", "in ann 0 08:00\n", "in ann 0\n08:00", "undo ann\nrate a 5\nbase a",
                    "pay ann 5\nrate a 5\nbase a", "log\nann", "\n", "\nlog ann", "hand bob 60 down 1 down 1\n",
                    "hand bob 60 down 1 down 1\nrate a 5\nbase a", "leave ann\n", "single ann 3\n08:00 240"):
            self.refused(row)

    def test_numbers(self):
        figures = ["00", "01", "-0", "-1", "+1", "1 ", "", "1.0", "1e1", "1_0", "0x1", "a", "five", "1,0", "9" * 5000,
                   "0" * 5000 + "1", "0" * 5000, "-" + "9" * 5000, "1\n", "\u0661", "\u00b2"]
        for form, beyond in (
                ("in ann {} 08:00", ["694444"]), ("out ann {} 08:00", ["694444"]), ("feast ann {}", ["694444"]),
                ("strike ann in {} 08:00", ["694444"]), ("ordinary ann {}", ["694444"]), ("single ann {}", ["694444"]),
                ("usual ann {}", ["694444"]), ("standing ann {}", ["694444"]), ("sheet ann {}", ["99207", "694443"]),
                ("due ann {}", ["99207"]), ("pay ann {}", ["99207", "100000"]),
                ("book ann {}\nrate a 5\nbase a", ["99207"]), ("hand bob {} down 1 down 1", ["0", "1441"]),
                ("hand bob 60 down {} down 1", ["0", "241"]), ("hand bob 60 down 1 up {}", ["0", "241"]),
                ("hand bob 60 near {} down 1", ["0", "241"]), ("hand bob 60 graced {} up 1 down 1", ["0", "121"]),
                ("hand bob 60 down 1 graced 5 up {}", ["0", "241"]), ("single ann 3 08:00 {}", ["0", "1441"]),
                ("standing ann 3 {} 08:00 5", ["7", "10"]), ("standing ann 3 0 08:00 {}", ["0", "1441"])):
            for number in figures + beyond:
                # Behind a book's week a line end may stand.
                if "\n" not in number or "\n" not in form:
                    self.refused(form.format(number))

    def test_clocks(self):
        for form in ("in ann 0 {}", "out ann 0 {}", "strike ann out 0 {}", "single ann 0 {} 5",
                     "standing ann 0 0 {} 5"):
            for clock in ("", "8:00", "08:0", "08:000", "24:00", "08:60", "0800", "08.00", "08:00:00", "-8:00", "+8:00",
                          "08:00 ", "aa:bb", "480", ":", "0" * 5000 + ":00", "08: 0"):
                self.refused(form.format(clock))

    def test_roundings(self):
        for words in ("", "down", "down 1", "down 1 down", "down 1 1", "1 down down 1", "down 1 down 1 down 1",
                      "other 1 down 1", "Down 1 down 1", "downs 1 down 1", "down 1 graced 5", "down 1 graced up 5",
                      "graced 5 graced 5 up 1 down 1", "graced 5 down 1", "graced down 1 down 1", "down 1 graced 5 5",
                      "graced 5 5 up 1 down 1", "down 1  down 1", "grace 5 up 1 down 1", "down 1 down 1 "):
            self.refused("hand bob 60 " + words)

    def test_shifts(self):
        for words in ("08:00", "240", "08:00 240 13:00", "08:00 240 240", "08:00 08:00 240", "0 08:00 240",
                      "08:00 240 08:00 240", "08:00 5 09:00 5 08:00 5", "08:00-09:00", "08:00 240;", "none"):
            self.refused("single ann 3 " + words)
        for words in ("08:00 240", "0 08:00", "0", "0 240", "7 08:00 240", "00 08:00 240", "-1 08:00 240",
                      "0 08:00 240 1", "0 08:00 240 0 08:00 240", "0 1 08:00 240", "01 08:00 240",
                      "0 08:00 240 08:00 5"):
            self.refused("standing ann 3 " + words)

    def test_stamps_words(self):
        for row in ("strike ann", "strike ann in", "strike ann at 0 08:00", "strike ann In 0 08:00",
                    "strike in ann 0 08:00",
                    "strike ann 0 08:00", "strike ann in out 0 08:00", "strike ann inn 0 08:00", "at ann 0 08:00",
                    "in ann in 0 08:00", "In ann 0 08:00"):
            self.refused(row)


class Order(Said):

    def test_no_row_ahead_of_all(self):
        desk = desk_of(book=QUARRELS)
        for row in ("log bob ", "in bob 0", "book bob 5", "book bob 05\nwrong", "hand ann 60 down 1", "pay bob 99207",
                    "hand ann 0 down 1 down 1", "single bob 3 08:00 5 08:00 5", "leave bob\n", "book ann\nwrong"):
            self.check(desk, row, (NoRow, {}))

    def test_no_hand_ahead_of_what_the_stages_refuse(self):
        desk = desk_of("pay ann 5")
        for row in ("book bob 5\nwrong", "book bob 5\n", "strike bob in 0 08:00", "ordinary bob 3", "usual bob 3",
                    "pay bob 4", "until bob", "undo bob", "leave bob", "single bob 3", "log bob"):
            self.check(desk, row, (NoHand, {"name": "bob"}))
        self.check(desk, "book ann 5\nwrong", (NoText, {"row": 0}), "pay ann 4", (Early, {"week": 5}))

    def test_a_name_taken(self):
        desk = desk_of("in ann 0 08:00")
        for row in (HAND, "hand ann 5 up 1 graced 5 down 1"):
            self.check(desk, row, (Taken, {"name": "ann"}), "log ann", "in 0 08:00")


class Kept(Said):

    def test_rests_and_books_stay_as_they_were_handed_in(self):
        rests, book = list(RESTS), copy.deepcopy(LATE)
        desk = Desk(book, rests)
        rests.clear()
        self.check(desk, HAND, "ok", "in ann 0 08:00", "ok", "out ann 0 15:00", "ok", "broken ann", "0 14:00 0 0 08:00")
        self.assertEqual(book, LATE)
        rests.extend([("work", 1, 1)] * 3)
        self.check(desk, "broken ann", "0 14:00 0 0 08:00")
        self.assertEqual(rests, [("work", 1, 1)] * 3)

    def test_two_desks_and_two_hands_know_nothing_of_one_another(self):
        one, other = desk_of("hand bob 60 down 1 down 1"), desk_of("hand bob 60 down 1 down 1")
        ahead = all_said(other, "ann")
        for row in ROWS[3:]:
            said(one, row)
        said(one, "in ann 0 08:00")
        self.assertNotEqual(all_said(one, "ann"), ahead)
        for desk, name in ((one, "bob"), (other, "ann"), (other, "bob")):
            self.assertEqual(all_said(desk, name), ahead)
            self.check(desk, f"undo {name}", "none")


class Drawn(unittest.TestCase):

    def row_of(self, chance, deed):
        """The row that tells a deed to ann, shifts in any order."""
        word, *told = deed
        if word in ("tell", "strike"):
            stamp = f"{told[0][0]} {show_minute(told[0][1])}"
            return f"strike ann {stamp}" if word == "strike" else f"{told[0][0]} ann {show_minute(told[0][1])}"
        if word == "book_from":
            return f"book ann {told[0]}\n{show_book(told[1])}"
        words = [word, "ann", str(told[0])]
        for *weekday, clock, length in chance.sample(told[1], len(told[1])) if told[1:] else []:
            words += [*map(str, weekday), f"{clock // 60:02}:{clock % 60:02}", str(length)]
        return " ".join(words)

    def answers_of(self, hand):
        """All that all_said tells, by a hand and the functions of the package."""
        def bounds(row):
            return f"{show_minute(row[0])} {show_minute(row[1])}"

        def listed(rows):
            return "; ".join(rows) or "none"

        def told(show, question, *arguments):
            try:
                return show(question(*arguments))
            except (Quarrel, Worn) as refusal:
                return refusal.__class__, vars(refusal)

        def lines_shown(rows):
            return listed([" ".join(map(str, row)) for row in rows])

        lot = lot_by_minutes(minutes_of([row[:2] for row in hand.worked()]))
        broken = first_broken(lot, RESTS)
        return [
            show_log(hand.stamps()),
            listed([f"{bounds(row)} {row[2]}" for row in hand.worked()]),
            listed([bounds(row) for row in hand.lot()]),
            told(lambda rows: listed([f"{bounds(row)} {row[2]}" for row in rows]), hand.sorts),
            f"{show_minute(broken[0])} {broken[1]} {show_minute(broken[2])}" if broken else "none",
            told(show_minute, may_go_on, lot, RESTS) if lot else "none",
            *[told(lines_shown, hand.week_lines, week) for week in range(4)],
            *[told(str, hand.week_due, week) for week in range(4)]]

    def test_a_desk_against_a_hand(self):
        chance = random.Random(71)
        for _ in range(30):
            desk = Desk(PLAIN, RESTS)
            desk.say("hand ann 300 up 7 graced 9 down 5")
            hand = Hand(EMPTY, 300, ("up", 7), ("graced", 9, ("down", 5)), PLAIN)
            for _ in range(chance.randint(1, 30)):
                if chance.random() < 0.2:
                    self.assertEqual(desk.say("undo ann"), "ok" if hand.undo() else "none")
                    continue
                deed = some_deed(chance, 21)
                answer = said(desk, self.row_of(chance, deed))
                told = do(hand, deed)
                self.assertEqual(answer[0] if isinstance(answer, tuple) else answer,
                                 told if isinstance(told, type) else "known" if told is False else "ok")
            self.assertEqual(all_said(desk, "ann"), self.answers_of(hand))


class ToldSoon(unittest.TestCase):

    def test_dozens_of_hands(self):
        desk = Desk(LATE, RESTS)
        names = [one + other for one in "abcdefgh" for other in "abcdefgh"]
        for name in names:
            desk.say(f"hand {name} 480 graced 5 up 15 graced 5 down 15")
            desk.say(f"standing {name} 0 0 08:00 480 1 08:00 480 2 08:00 480")
            for day in range(0, 50, 3):
                desk.say(f"in {name} {day} 07:58")
                desk.say(f"out {name} {day} 16:03")
        for week in range(8):
            for name in names:
                desk.say(f"pay {name} {week}")
        self.assertEqual(len({desk.say(f"sorts {name}") for name in names}), 1)
        self.assertEqual(desk.say("pay aa 8").partition(";")[0], desk.say("pay hh 8").partition(";")[0])

    def test_far_apart(self):
        desk = desk_of("in ann 0 00:00", f"out ann {show_minute(LAST)}", rests=RESTS)
        self.assertEqual(desk.say("worked ann"), "0 00:00 0 01:00 end; 694443 22:59 694443 23:59 begin")
        self.assertEqual(desk.say("pay ann 99206"), "600; 0 base 600 60")
        self.assertEqual(desk.say("until ann"), "694444 04:59")


if __name__ == "__main__":
    unittest.main()
