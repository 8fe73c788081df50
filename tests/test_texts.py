"""Point [29]: books as texts."""

import copy
import random
import re
import unittest

from hourcoin.books import is_book
from hourcoin.errors import NoText
from hourcoin.texts import read_book, show_book
from tests.test_books import BOOK, CONDITIONS, RATES, RULES, of, ruled
from tests.test_cases import rule, some_book
from tests.things import bent, odd_things

TEXT = """rate base 600
rate late 900
rate rest 0
base base
rule night 5 late clock 22:00 06:00
rule long 5 rest day 480 week 2400
rule sunday 0 late days 06 feast"""
ROWS = TEXT.split("\n")
SIGNS = list("0159 abz:;-+_.,~A(\n")
NAME = "([a-z]{1,8})"
NUMBER = "(0|[1-9][0-9]{0,7})"
CLOCK = "([01][0-9]|2[0-3]):([0-5][0-9])"
CONDITION = f"clock {CLOCK} {CLOCK}|days ([0-6]+)|feast|(day|week) {NUMBER}"


def slow_condition(match):
    """The condition that a pattern found."""
    hour, minute, end_hour, end_minute, days, word, number = match.groups()
    if days:
        return "days", tuple(map(int, days))
    if word:
        return word, int(number)
    if hour:
        return "clock", 60 * int(hour) + int(minute), 60 * int(end_hour) + int(end_minute)
    return ("feast",)


def slow_book(rows):
    """A book whose text begins with these rows, by patterns, and whether it is all of it; or None."""
    base, rates, rules = None, [], []
    for row in rows:
        if match := re.fullmatch(f"rate {NAME} {NUMBER}", row):
            rates.append((match[1], int(match[2])))
        elif match := re.fullmatch(f"base {NAME}", row):
            base = match[1]
        elif match := re.fullmatch(f"rule {NAME} {NUMBER} {NAME}((?: (?:{CONDITION}))*)", row):
            conditions = tuple(slow_condition(found) for found in re.finditer(f" (?:{CONDITION})", match[4]))
            rules.append((match[1], int(match[2]), match[3], conditions))
        else:
            return None
    book = base or (rates and rates[0][0]), tuple(rates), tuple(rules)
    # Where a row stands at another place, it is not shown so.
    if is_book(book) and show_book(book).split("\n")[:len(rows)] == rows:
        return book, base is not None
    return None


def slow_read(text):
    """What point [29] words: the book that is so written, or else the number of a row."""
    rows = text.split("\n") if text else []
    for at in range(len(rows)):
        found = slow_book(rows[:at + 1])
        if found is None:
            return at
    return found[0] if rows and found[1] else len(rows)


def fast_read(text):
    """What is told, or the row of NoText."""
    try:
        return read_book(text)
    except NoText as refusal:
        return refusal.row


def text_of(*rows):
    """The text of these rows."""
    return "\n".join(rows)


class ShowBook(unittest.TestCase):

    def test_known(self):
        for book, text in (
                (BOOK, TEXT), (ruled(), text_of(*ROWS[:4])), (("a", (("a", 0),), ()), "rate a 0\nbase a"),
                (("abcdefgh", (("aa", 10 ** 6), ("abcdefgh", 1)), ()),
                 "rate aa 1000000\nrate abcdefgh 1\nbase abcdefgh"),
                (ruled(of()), text_of(*ROWS[:4], "rule name 7 sort")),
                (ruled(of(*CONDITIONS)), text_of(
                    *ROWS[:4], "rule name 7 sort clock 22:00 06:00 days 036 feast day 480 week 2400")),
                (ruled(of(*CONDITIONS[::-1])), text_of(
                    *ROWS[:4], "rule name 7 sort week 2400 day 480 feast days 036 clock 22:00 06:00")),
                (ruled(rule("a", 0, "late", ("clock", 0, 1439)), rule("b", 99, "base", ("clock", 65, 5))),
                 text_of(*ROWS[:4], "rule a 0 late clock 00:00 23:59", "rule b 99 base clock 01:05 00:05")),
                (ruled(rule("b", 9, "late", ("days", (0, 1, 2, 3, 4, 5, 6))), rule("a", 10, "rest", ("days", (6,)))),
                 text_of(*ROWS[:4], "rule b 9 late days 0123456", "rule a 10 rest days 6"))):
            with self.subTest(text):
                kept = copy.deepcopy(book)
                self.assertEqual(show_book(book), text)
                self.assertIs(show_book(book).__class__, str)
                self.assertEqual(book, kept)


class ReadBook(unittest.TestCase):

    def check(self, text, wanted):
        with self.subTest(text):
            self.assertEqual(fast_read(text), wanted)
            self.assertEqual(slow_read(text), wanted)

    def test_known(self):
        self.check(TEXT, BOOK)
        self.check(text_of(*ROWS[:4]), ruled())
        self.check("rate a 0\nbase a", ("a", (("a", 0),), ()))
        self.check("rate a 1000000\nrate aa 1\nbase aa", ("aa", (("a", 10 ** 6), ("aa", 1)), ()))
        for conditions in (CONDITIONS, CONDITIONS[::-1], CONDITIONS[2:] + CONDITIONS[:2], ()):
            book = ruled(rule("a", 99, "rest", *conditions), rule("rule", 0, "base"))
            self.check(show_book(book), book)
        # Names that are words of rows, too.
        book = ("rate", (("base", 5), ("rate", 6)), (("rule", 1, "base", (("feast",),)), ("feast", 1, "rate", ())))
        self.check("rate base 5\nrate rate 6\nbase rate\nrule rule 1 base feast\nrule feast 1 rate", book)

    def test_plain_kinds(self):
        told = read_book(TEXT)
        self.assertTrue(is_book(told))
        self.assertEqual([part.__class__ for part in told], [str, tuple, tuple])
        self.assertEqual([row.__class__ for row in told[1] + told[2]], [tuple] * 6)

    def test_more_must_come(self):
        self.check("", 0)
        for many in range(4):
            self.check(text_of(*ROWS[:many]), many)
        self.check("rate a 5", 1)
        self.check("\n".join(f"rate {name} 5" for name in "abcdefgh"), 8)

    def test_no_base_where_it_must_come(self):
        self.check(text_of(*ROWS[:3], *ROWS[4:]), 3)
        self.check(text_of(*ROWS[:3], "base"), 3)
        self.check(text_of(*ROWS[:3], "base other"), 3)
        self.check(text_of(*ROWS[:3], "base bas"), 3)
        self.check(text_of(*ROWS[:3], "base base late"), 3)
        self.check(text_of(*ROWS[:3], "base base", "base base"), 4)
        self.check(text_of(*ROWS[:3], "base base", "base late"), 4)
        self.check("base base", 0)
        self.check(text_of(ROWS[3], *ROWS[:3]), 0)
        self.check(ROWS[4], 0)

    def test_rates(self):
        self.check("rate b 5\nrate a 5\nbase a", 1)
        self.check("rate a 5\nrate a 5\nbase a", 1)
        self.check("rate a 5\nrate a 6\nbase a", 1)
        self.check("rate a 5\nrate c 5\nrate b 5\nbase a", 2)
        self.check("rate ab 5\nrate aa 5\nbase ab", 1)
        self.check("rate zzzzzzzz 5\nrate a 5", 1)
        self.check(text_of(*ROWS[:4], "rate z 5"), 4)
        self.check(text_of(*ROWS[:5], "rate z 5", *ROWS[5:]), 5)
        for row in ("rate", "rate ", "rate a", "rate a ", "rate 5", "rate 5 a", "rate a 1000001", "rate a -1",
                    "rate a -0", "rate a +5", "rate a 05", "rate a 00", "rate a 5 5", "rate a 5 ", " rate a 5",
                    "rate  a 5", "rate a  5", "Rate a 5", "rat a 5", "rates a 5", "rate A 5", "rate abcdefghi 5",
                    "rate a1 5", "rate a 5a", "rate a five", "rate a 1_0", "rate a 1e3", "rate a 5.0", "rate a 5;",
                    "rate a " + "9" * 5000, "rate a " + "0" * 5000, "rate " + "a" * 5000 + " 5"):
            self.check(row, 0)
            self.check(text_of(row, "base a"), 0)
            self.check(text_of("rate a 5", row.replace(" a", " b"), "base a"), 1)

    def test_rules(self):
        for words in ("", " ", "a", "a 5", "a late", "a late 5", "5 a late", "a 100 late", "a -1 late", "a 05 late",
                      "a +5 late", "a 5 other", "a 5 lat", "a 5 Late", "A 5 late", "abcdefghi 5 late", "a 5  late",
                      "a  5 late", " a 5 late", "a 5 late ", "a 5 late  feast", "a 5 late feast ",
                      "a 5 late feast feast",
                      "a 5 late other", "a 5 late Feast", "a 5 late feas", "a 5 late feasts", "a 5 late feast 5",
                      "a 5 late day", "a 5 late day ", "a 5 late day 0", "a 5 late day 1441", "a 5 late day 05",
                      "a 5 late day -5", "a 5 late day 5 5", "a 5 late day 5 day 6", "a 5 late day five",
                      "a 5 late week 0", "a 5 late week 10081", "a 5 late week", "a 5 late week 5 feast week 5",
                      "a 5 late days", "a 5 late days ", "a 5 late days 7", "a 5 late days 00", "a 5 late days 10",
                      "a 5 late days 0 1", "a 5 late days 0,1", "a 5 late days 012345678", "a 5 late days -1",
                      "a 5 late days 0 feast days 1", "a 5 late clock", "a 5 late clock 22:00",
                      "a 5 late clock 22:00 22:00",
                      "a 5 late clock 22:00 24:00", "a 5 late clock 22:00 6:00", "a 5 late clock 2200 0600",
                      "a 5 late clock 22:00-06:00", "a 5 late clock 22:60 06:00", "a 5 late clock 22:00 06:00 07:00",
                      "a 5 late clock 22:00  06:00", "a 5 late clock 22:00 06:00 clock 01:00 02:00",
                      "a 5 late clock feast", "a 5 late clock 22:00 feast", "a 5 late day feast", "a 5 late 5",
                      "a 5 late day " + "9" * 5000, "a 5 late days " + "0" * 5000, "a " + "5" * 5000 + " late",
                      "a 5 late" + " feast" * 1000):
            self.check(text_of(*ROWS[:4], "rule " + words), 4)
            self.check(text_of(*ROWS[:5], "rule " + words, *ROWS[5:]), 5)
        for words in ("a 0 late", "a 99 base", "abcdefgh 5 rest day 1440", "a 5 late day 1 week 10080 feast days 0",
                      "a 5 late week 1 day 1440",
                      "late 5 late", "a 5 late clock 00:00 00:01", "a 5 late clock 23:59 00:00"):
            self.assertTrue(is_book(fast_read(text_of(*ROWS[:4], "rule " + words))))
            self.check(text_of(*ROWS, "rule " + words), slow_book(ROWS + ["rule " + words])[0])

    def test_rules_of_one_name(self):
        self.check(text_of(*ROWS, ROWS[4]), 7)
        self.check(text_of(*ROWS, "rule long 9 base"), 7)
        self.check(text_of(*ROWS[:5], ROWS[4], *ROWS[5:]), 5)

    def test_at_most_eight_rules(self):
        rows = ROWS[:4] + [f"rule {name} 5 late feast" for name in "abcdefghi"]
        for many in range(9):
            self.assertEqual(len(read_book(text_of(*rows[:4 + many]))[2]), many)
        self.check(text_of(*rows), 12)
        self.check(text_of(*rows, "wrong"), 12)

    def test_rows_behind_its_end_and_line_ends(self):
        self.check(TEXT + "\n", 7)
        self.check(TEXT + "\n\n", 7)
        self.check(TEXT + "\nwrong", 7)
        self.check(TEXT + "\n" + TEXT, 7)
        self.check("\n" + TEXT, 0)
        self.check("\n", 0)
        self.check(TEXT.replace("\n", "\n\n"), 1)
        self.check(TEXT.replace("\n", " \n"), 0)
        self.check(TEXT.replace("\n", "\n "), 1)
        self.check(TEXT.replace("\n", "; "), 0)
        self.check(TEXT + " ", 6)
        self.check(" " + TEXT, 0)
        self.check("rate a 5\nbase a\n", 2)

    def test_anything(self):
        for thing in odd_things() + [BOOK, [TEXT], (TEXT,), {TEXT: 1}, ROWS, tuple(ROWS)]:
            kept = copy.deepcopy(thing)
            told = fast_read(thing)
            self.assertEqual(told, 0)
            self.assertIs(told.__class__, int)
            self.assertEqual(thing, kept)

    def test_bent_at_any_place(self):
        for text in bent(TEXT, SIGNS):
            self.read_or_refused(text)

    def read_or_refused(self, text):
        """A text is read, or refused, as the patterns have it."""
        told = fast_read(text)
        self.assertEqual(told, slow_read(text), text)
        if isinstance(told, tuple):
            self.assertEqual(show_book(told), text)

    def test_bent_by_rows_and_words(self):
        chance = random.Random(52)
        for _ in range(2000):
            rows = show_book(some_book(chance)).split("\n")
            at, to = chance.randrange(len(rows)), chance.randrange(len(rows))
            words = rows[at].split(" ")
            for row in ([rows[to]], [], [rows[at], rows[at]], [" ".join(words[:-1])], [" ".join(words + words[-1:])],
                        [" ".join(chance.sample(words, len(words)))], [rows[to], rows[at]]):
                self.read_or_refused(text_of(*rows[:at], *row, *rows[at + 1:]))

    def test_what_is_shown_is_read(self):
        chance = random.Random(53)
        for _ in range(500):
            book = some_book(chance)
            text = show_book(book)
            self.assertEqual(read_book(text), book)
            self.assertEqual(show_book(read_book(text)), text)
        for book in (BOOK, ruled(*RULES[::-1]), ("rest", RATES, ())):
            self.assertEqual(read_book(show_book(book)), book)

    def test_thousands_of_rates(self):
        names = sorted(a + b + c for a in "abcdefghijklmnopqrstuvwxyz" for b in "abcdefghijklmnopqrstuvwxyz"
                       for c in "abcdefghijklmnopqrstuvwxyz")
        text = "\n".join([f"rate {name} 5" for name in names] + ["base zzz", "rule a 1 aaa"])
        self.assertEqual(len(read_book(text)[1]), 17576)
        self.assertEqual(fast_read(text + "\nrule b 1 aaaa"), 17578)


if __name__ == "__main__":
    unittest.main()
