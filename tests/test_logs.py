"""Point [30]: stamps as texts."""

import copy
import random
import re
import unittest

from hourcoin.errors import NoText
from hourcoin.logs import read_log, show_log
from tests.test_stamps import some_stamps
from tests.things import bent, odd_things

LAST = 999999359
STAMPS = [("in", 17705), ("out", 18000), ("in", 18000), ("out", 18720)]
TEXT = "in 12 07:05\nout 12 12:00\nin 12 12:00\nout 13 00:00"
SIGNS = [chr(number) for number in range(32, 127) if number != 37] + ["\n"]


def slow_read(text):
    """The stamps that are so written, or else the first row that is no log's, by a pattern."""
    told = []
    for at, row in enumerate(text.split("\n") if text else []):
        match = re.fullmatch(r"(in|out) (0|[1-9][0-9]{0,5}) ([01][0-9]|2[0-3]):([0-5][0-9])", row)
        if not match or int(match[2]) > 694443:
            return at
        minute = 1440 * int(match[2]) + 60 * int(match[3]) + int(match[4])
        if told and (minute < told[-1][1] or minute == told[-1][1] and (told[-1][0], match[1]) != ("out", "in")):
            return at
        told.append((match[1], minute))
    return told


def fast_read(text):
    """What is told, or the row of NoText."""
    try:
        return read_log(text)
    except NoText as refusal:
        return refusal.row


class ShowLog(unittest.TestCase):

    def test_known(self):
        for stamps, text in (
                ([], ""), ([("in", 0)], "in 0 00:00"), ([("out", LAST)], "out 694443 23:59"), (STAMPS, TEXT),
                (STAMPS[::-1], TEXT), (STAMPS + STAMPS, TEXT), ([STAMPS[2], STAMPS[0], STAMPS[3], STAMPS[1]], TEXT),
                ([("in", 5), ("out", 5)], "out 0 00:05\nin 0 00:05"),
                ([("in", 14400), ("in", 2880)], "in 2 00:00\nin 10 00:00")):
            with self.subTest(stamps):
                kept = copy.deepcopy(stamps)
                self.assertEqual(show_log(stamps), text)
                self.assertIs(show_log(stamps).__class__, str)
                self.assertEqual(stamps, kept)


class ReadLog(unittest.TestCase):

    def check(self, text, wanted):
        with self.subTest(text):
            self.assertEqual(fast_read(text), wanted)
            self.assertEqual(slow_read(text), wanted)

    def test_known(self):
        self.check("", [])
        self.check("in 0 00:00", [("in", 0)])
        self.check("out 694443 23:59", [("out", LAST)])
        self.check(TEXT, STAMPS)
        self.check("in 0 00:01\nin 0 00:02\nout 9 00:00\nout 10 00:00",
                   [("in", 1), ("in", 2), ("out", 12960), ("out", 14400)])
        self.assertEqual([stamp.__class__ for stamp in read_log(TEXT)], [tuple] * 4)

    def test_rows_out_of_order_or_twice(self):
        self.check("in 0 00:05\nin 0 00:05", 1)
        self.check("in 0 00:05\nout 0 00:05", 1)
        self.check("out 0 00:05\nin 0 00:05", [("out", 5), ("in", 5)])
        self.check("out 0 00:05\nout 0 00:05", 1)
        self.check("in 0 00:05\nout 0 00:04", 1)
        self.check("in 10 00:00\nout 9 00:00", 1)
        self.check("in 0 00:05\nout 0 00:07\nin 0 00:06\nout 0 00:05", 2)
        self.check("in 0 00:05\nout 0 00:07\nin 0 00:07\nout 0 00:07", 3)

    def test_line_ends(self):
        self.check("\n", 0)
        self.check("\nin 0 00:00", 0)
        self.check("in 0 00:00\n", 1)
        self.check("in 0 00:00\n\nin 0 00:01", 1)
        self.check(TEXT + "\n", 4)
        self.check(TEXT + "\n\n", 4)
        self.check(TEXT.replace("\n", "\n "), 1)
        self.check(TEXT.replace("\n", " \n"), 0)
        self.check(TEXT.replace("\n", "; "), 0)

    def test_no_rows_of_stamps(self):
        for row in ("in", "in ", "in 0", "in 0 ", "in 00:00", "0 00:00", "in 0 0:00", "in 0 24:00", "in 0 00:60",
                    "in 00 00:00", "in 01 00:00", "in -1 00:00", "in +1 00:00", "in -0 00:00", "in 694444 00:00",
                    "in 0 00:00 ", " in 0 00:00", "in  0 00:00", "in 0  00:00", "in 0 00:00 told", "In 0 00:00",
                    "IN 0 00:00", "at 0 00:00", "inn 0 00:00", "ou 0 00:00", "outs 0 00:00", "in0 00:00", "i 0 00:00",
                    "in 0 0000", "in 0 00.00", "in 0 00:000", "in 0 1:000", "out 1_0 00:00", "in 1e3 00:00",
                    "in " + "9" * 5000 + " 00:00", "in " + "0" * 5000 + " 00:00", "in 0 " + "0" * 5000 + ":00",
                    "in 0 00:00" + " " * 5000, "rate a 5", "base a", "none", "0", "ok"):
            self.check(row, 0)
            self.check("in 0 00:00\n" + row, 1)
            self.check(TEXT + "\n" + row + "\nin 99 00:00", 4)

    def test_anything(self):
        for thing in odd_things() + [STAMPS, tuple(STAMPS), [TEXT], (TEXT,), {TEXT: 1}, TEXT.split("\n")]:
            kept = copy.deepcopy(thing)
            told = fast_read(thing)
            self.assertEqual(told, [] if thing == "" else 0)
            self.assertIs(told.__class__, list if thing == "" else int)
            self.assertEqual(thing, kept)

    def test_bent_at_any_place(self):
        for text in bent(TEXT, SIGNS):
            self.read_or_refused(text)

    def read_or_refused(self, text):
        """A text is read, or refused, as the pattern has it."""
        told = fast_read(text)
        self.assertEqual(told, slow_read(text), text)
        if isinstance(told, list):
            self.assertEqual(show_log(told), text)

    def test_what_is_shown_is_read(self):
        chance = random.Random(50)
        for _ in range(300):
            stamps = some_stamps(chance, chance.choice([10, 3000, LAST + 1]), 12)
            chance.shuffle(stamps)
            text = show_log(stamps)
            told = read_log(text)
            self.assertEqual(told, sorted(set(stamps), key=lambda stamp: (stamp[1], stamp[0] == "in")))
            self.assertEqual(show_log(told), text)

    def test_rows_in_any_order(self):
        chance = random.Random(51)
        for _ in range(300):
            rows = show_log(some_stamps(chance, 20, 6)).split("\n")
            chance.shuffle(rows)
            if chance.random() < 0.3:
                rows.append(chance.choice(rows))
            self.read_or_refused("\n".join(rows))

    def test_lists_are_the_askers_own(self):
        told = read_log(TEXT)
        told.append("more")
        told[0] = "other"
        self.assertEqual(read_log(TEXT), STAMPS)
        self.assertIsNot(read_log(""), read_log(""))

    def test_thousands_of_rows(self):
        stamps = [("in" if at % 2 else "out", 7 * at) for at in range(20000)]
        self.assertEqual(read_log(show_log(stamps)), stamps)
        self.check(show_log(stamps) + "\nin 0 00:00", 20000)


if __name__ == "__main__":
    unittest.main()
