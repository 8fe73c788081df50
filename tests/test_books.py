"""Points [14] and [15]: names, conditions, rules and books."""

import copy
import itertools
import unittest

from hourcoin.books import is_book, is_name, is_rule, rate_of
from tests.things import odd_things, spoiled

RATES = (("base", 600), ("late", 900), ("rest", 0))
RULES = (
    ("night", 5, "late", (("clock", 1320, 360),)),
    ("long", 5, "rest", (("day", 480), ("week", 2400))),
    ("sunday", 0, "late", (("days", (0, 6)), ("feast",))),
)
BOOK = ("base", RATES, RULES)
CONDITIONS = (("clock", 1320, 360), ("days", (0, 3, 6)), ("feast",), ("day", 480), ("week", 2400))


def of(*conditions):
    """A rule of these conditions."""
    return "name", 7, "sort", conditions


def ruled(*rules):
    """A book of these rules."""
    return "base", RATES, rules


class IsName(unittest.TestCase):

    def test_names(self):
        for name in ("a", "z", "ab", "name", "abcdefgh", "zzzzzzzz"):
            self.assertIs(is_name(name), True)

    def test_no_names(self):
        for thing in ("", "abcdefghi", "A", "Name", "nAme", "nam3", "3", "a b", " a", "a ", "a\n", "\n",
                      "a_b", "_", "-", "a-b", "a.b", "`", "{", "x" * 1000, "\u00e4", "\u00df", "\u0131"):
            with self.subTest(thing):
                self.assertIs(is_name(thing), False)

    def test_anything(self):
        for thing in odd_things():
            self.assertIs(is_name(thing), thing == "a")
        for thing in spoiled("name"):
            self.assertIs(is_name(thing), False)


class IsRule(unittest.TestCase):

    def test_rules(self):
        for rule in (*RULES, of(), ("a", 0, "z", ()), ("abcdefgh", 99, "abcdefgh", ()), of(*CONDITIONS)):
            self.assertIs(is_rule(rule), True)

    def test_each_condition_alone_and_in_any_order(self):
        for condition in (("clock", 0, 1), ("clock", 1, 0), ("clock", 0, 1439), ("clock", 1439, 0),
                          ("clock", 480, 481), ("days", (0,)), ("days", (6,)), ("days", tuple(range(7))),
                          ("feast",), ("day", 1), ("day", 1440), ("week", 1), ("week", 10080)):
            with self.subTest(condition):
                self.assertIs(is_rule(of(condition)), True)
        for some in itertools.permutations(CONDITIONS):
            self.assertIs(is_rule(of(*some)), True)

    def test_no_conditions(self):
        for wrong in (("clock", 5, 5), ("clock", -1, 5), ("clock", 5, -1), ("clock", 1440, 5),
                      ("clock", 5, 1440), ("clock", 5), ("clock",), ("clock", 5, 6, 7), ("clock", (5, 6)),
                      ("days", ()), ("days",), ("days", (7,)), ("days", (-1,)), ("days", (1, 1)),
                      ("days", (2, 1)), ("days", (0, 2, 1)), ("days", 1), ("days", 1, 2), ("days", [1, 2]),
                      ("days", (1, 2), 3), ("days", ((1, 2),)), ("days", "024"), ("days", (0, True)),
                      ("days", (False, 1)), ("days", (True,)), ("days", (None,)), ("days", ("1",)),
                      ("feast", 1), ("feast", True), ("feast", ()), ("feast", None), "feast", ["feast"],
                      ("day", 0), ("day", -1), ("day", 1441), ("day",), ("day", 5, 6), ("day", (5,)),
                      ("week", 0), ("week", -1), ("week", 10081), ("week",), ("week", 5, 6), ("week", "5"),
                      ("day", True), ("week", True), ("clock", True, 5), ("clock", 5, False), ("day", None),
                      ("day", 10 ** 30), ("week", 10 ** 30), ("clock", 0, 10 ** 30), ("days", (10 ** 30,)),
                      (), ("",), ("other", 5), ("clocks", 5, 6), ("Clock", 5, 6), ("dayz", (1,)),
                      ("feasts",), ("feas",), ("Feast",), ("days ", (1,)), ("weeks", 5), ("wee", 5),
                      (5, "day"), (None, 5), (("day", 5),), {"day": 5}, ["day", 5], None, True, 5, "day 5"):
            with self.subTest(wrong):
                self.assertIs(is_rule(of(wrong)), False)
                self.assertIs(is_rule(of(("feast",), wrong)), False)
                self.assertIs(is_rule(of(wrong, ("feast",))), False)

    def test_conditions_of_unlike_words(self):
        for twice in ((("clock", 1, 2), ("clock", 3, 4)), (("clock", 1, 2), ("clock", 1, 2)),
                      (("days", (1,)), ("days", (2,))), (("feast",), ("feast",)), (("day", 1), ("day", 2)),
                      (("week", 1), ("feast",), ("week", 2)), (*CONDITIONS, ("day", 9))):
            with self.subTest(twice):
                self.assertIs(is_rule(of(*twice)), False)
        self.assertIs(is_rule(of(("day", 5), ("week", 5), ("days", (5,)))), True)

    def test_numbers_at_a_bound_and_one_beyond(self):
        for rank, wanted in ((0, True), (99, True), (-1, False), (100, False), (10 ** 30, False)):
            self.assertIs(is_rule(("name", rank, "sort", ())), wanted)

    def test_names(self):
        for wrong in ("", "A", "abcdefghi", "a b", "a1", 5, None, True, (), ("a",), ["a"], {}):
            self.assertIs(is_rule((wrong, 5, "sort", ())), False)
            self.assertIs(is_rule(("name", 5, wrong, ())), False)

    def test_parts_left_out_or_too_many(self):
        for thing in ((), ("name",), ("name", 5, "sort"), ("name", 5, "sort", (), ()), ("name", "sort", 5, ()),
                      ["name", 5, "sort", ()], ("name", 5, "sort", []), ("name", 5, "sort", None),
                      ("name", 5, "sort", ("feast",)), ("name", 5, "sort", "feast"), ("name", 5, "sort", {}),
                      ("name", True, "sort", ()), ("name", False, "sort", ()), ("name", "5", "sort", ())):
            with self.subTest(thing):
                self.assertIs(is_rule(thing), False)

    def test_truths_and_other_kinds_within(self):
        rule = of(*CONDITIONS)
        for thing in spoiled(rule):
            with self.subTest(thing):
                self.assertIs(is_rule(thing), False)

    def test_anything(self):
        for thing in odd_things():
            self.assertIs(is_rule(thing), False)
            self.assertIs(is_rule(of(thing)), False)
            self.assertIs(is_rule(("name", 5, "sort", thing)), thing == ())
            self.assertIs(is_rule(of(("days", thing))), thing == (1, 2))
            self.assertIs(is_rule(of((thing, 5))), False)


class IsBook(unittest.TestCase):

    def test_books(self):
        many = tuple((one + other, 5) for one in "abcdefghijkl" for other in "abcdefghijkl")
        for book in (BOOK, ("a", (("a", 0),), ()), ("z", (("a", 10 ** 6), ("z", 0)), ()), ruled(),
                     ruled(*[(name, 5, "late", CONDITIONS) for name in "abcdefgh"]),
                     # a rule may have the name of a sort, and a sort no rule
                     ruled(("base", 5, "base", ())), ("ll", many, (("a", 0, "aa", ()),))):
            with self.subTest(book):
                self.assertIs(is_book(book), True)

    def test_at_most_eight_rules(self):
        rules = [(name, 5, "late", ()) for name in "abcdefghi"]
        for many in range(9):
            self.assertIs(is_book(ruled(*rules[:many])), True)
        self.assertIs(is_book(ruled(*rules)), False)

    def test_rules_of_unlike_names(self):
        self.assertIs(is_book(ruled(RULES[0], RULES[0])), False)
        self.assertIs(is_book(ruled(RULES[0], RULES[1], ("night", 1, "rest", ()))), False)
        self.assertIs(is_book(ruled(*RULES, ("nights", 5, "late", ()))), True)

    def test_a_sort_without_a_rate(self):
        self.assertIs(is_book(("other", RATES, RULES)), False)
        self.assertIs(is_book(("base", RATES[1:], RULES)), False)
        self.assertIs(is_book(("base", RATES[:2], RULES)), False)
        self.assertIs(is_book(("base", (), ())), False)
        self.assertIs(is_book(ruled(("name", 5, "other", ()))), False)
        self.assertIs(is_book(ruled(*RULES, ("name", 5, "lat", ()))), False)
        self.assertIs(is_book(("base", RATES[:1], ())), True)

    def test_rates_rise_by_sorts_none_twice(self):
        for rates in ((("b", 1), ("a", 1)), (("a", 1), ("a", 1)), (("a", 1), ("a", 2)),
                      (("a", 1), ("c", 1), ("b", 1)), (("a", 1), ("ab", 1), ("aa", 1))):
            with self.subTest(rates):
                self.assertIs(is_book(("a", rates, ())), False)
        self.assertIs(is_book(("a", (("a", 9), ("aa", 8), ("ab", 7), ("b", 6)), ())), True)

    def test_numbers_at_a_bound_and_one_beyond(self):
        for rate, wanted in ((0, True), (10 ** 6, True), (-1, False), (10 ** 6 + 1, False), (10 ** 30, False)):
            self.assertIs(is_book(("a", (("a", rate),), ())), wanted)

    def test_parts_left_out_or_too_many(self):
        for thing in ((), ("base",), ("base", RATES), ("base", RATES, RULES, ()), (RATES, "base", RULES),
                      ["base", RATES, RULES], ("base", list(RATES), RULES), ("base", RATES, list(RULES)),
                      ("base", dict(RATES), RULES), ("base", (("base",),), ()), ("base", (("base", 5, 5),), ()),
                      ("base", ("base", 5), ()), ("base", (["base", 5],), ()), ("base", ((5, "base"),), ()),
                      ("base", (("base", True),), ()), ("base", (("base", "5"),), ()), (None, RATES, RULES),
                      ("base", RATES, RULES[0]), ("base", RATES, None), ("base", None, RULES)):
            with self.subTest(thing):
                self.assertIs(is_book(thing), False)

    def test_truths_and_other_kinds_within(self):
        wrong = list(spoiled(BOOK))
        self.assertGreater(len(wrong), 300)
        for thing in wrong:
            with self.subTest(thing):
                self.assertIs(is_book(thing), False)

    def test_anything(self):
        for thing in odd_things():
            self.assertIs(is_book(thing), False)
            self.assertIs(is_book((thing, RATES, RULES)), False)
            self.assertIs(is_book(("base", thing, RULES)), False)
            self.assertIs(is_book(("base", RATES, thing)), thing == ())
            self.assertIs(is_book(ruled(thing)), False)

    def test_what_is_handed_in_stays(self):
        thing = ["base", {"rate": [5]}, [("a", 1)]]
        kept = copy.deepcopy(thing)
        is_book(thing)
        is_rule(thing)
        is_name(thing)
        self.assertEqual(thing, kept)
        kept = copy.deepcopy(BOOK)
        is_book(BOOK)
        self.assertEqual(BOOK, kept)


class RateOf(unittest.TestCase):

    def test_each_sort(self):
        for sort, rate in (("base", 600), ("late", 900), ("rest", 0)):
            self.assertEqual(rate_of(BOOK, sort), rate)
            self.assertIs(rate_of(BOOK, sort).__class__, int)
        self.assertEqual(rate_of(("a", (("a", 10 ** 6),), ()), "a"), 10 ** 6)


if __name__ == "__main__":
    unittest.main()
