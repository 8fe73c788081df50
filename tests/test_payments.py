"""Point [28] and what [3] says of it: payments to a hand."""

import random
import unittest

from hourcoin.errors import Early, Quarrel
from hourcoin.hands import Hand
from hourcoin.paying import difference, worth
from tests.test_books import ruled
from tests.test_cases import rule
from tests.test_hands import EMPTY, EXACT, LATE, PLAIN, all_of, do, hand_of, some_deed, told_stamps
from tests.test_paying import rated

QUARRELS = ruled(rule("a", 1, "late"), rule("b", 1, "rest", ("clock", 600, 700)))


def by_rate(rate):
    """A hand that is paid so many coins an hour."""
    return hand_of(rated(PLAIN, base=rate, late=0, rest=0))


class Pay(unittest.TestCase):

    def test_nothing_is_due(self):
        hand = hand_of()
        self.assertEqual(hand.pay(0), (0, []))
        self.assertEqual(hand.pay(5), (0, []))
        self.assertEqual((hand.payments(), hand.left()), ([(0, 0), (5, 0)], 0))

    def test_weeks_below_that_one_alone(self):
        hand = told_stamps(hand_of(), 500, 560, 10580, 10640, 30740, 30800)
        self.assertEqual(hand.pay(0), (0, []))
        self.assertEqual(hand.pay(1), (600, [(0, "base", 600, 60)]))
        self.assertEqual(hand.pay(1), (0, []))
        self.assertEqual(hand.pay(3), (600, [(7, "base", 600, 60)]))
        self.assertEqual(hand.pay(99206), (600, [(21, "base", 600, 60)]))
        self.assertEqual(hand.payments(), [(0, 0), (1, 600), (1, 0), (3, 600), (99206, 600)])
        self.assertEqual([row.__class__ for row in hand.payments()], [tuple] * 5)

    def test_many_weeks_at_once_over_a_weeks_end(self):
        hand = told_stamps(hand_of(LATE), 10000, 10160)
        self.assertEqual(hand.pay(1), (80 * 900 // 60, [(6, "late", 900, 80)]))
        self.assertEqual(hand.pay(2), (80 * 900 // 60, [(7, "late", 900, 80)]))
        hand = told_stamps(hand_of(LATE), 10000, 10160)
        self.assertEqual(hand.pay(9), (160 * 900 // 60, [(6, "late", 900, 80), (7, "late", 900, 80)]))

    def test_what_is_told(self):
        hand = told_stamps(hand_of(), 500, 560)
        told = hand.pay(1)
        self.assertEqual([part.__class__ for part in (told, *told)], [tuple, int, list])
        told[1].append("more")
        self.assertEqual(hand.pay(1), (0, []))
        told = hand.pay(1)
        told[1].append((0, "base", 600, 60))
        hand.strike(("out", 560))
        hand.strike(("in", 500))
        self.assertEqual(hand.pay(1), (-600, [(0, "base", 600, -60)]))


class PutRight(unittest.TestCase):

    def test_told_behind_and_paid_once(self):
        hand = told_stamps(hand_of(), 500, 560)
        hand.pay(2)
        told_stamps(hand, 600, 630)
        self.assertEqual(hand.pay(2), (300, [(0, "base", 600, 30)]))
        self.assertEqual(hand.pay(2), (0, []))
        self.assertEqual(hand.pay(3), (0, []))

    def test_coins_and_minutes_below_0(self):
        hand = told_stamps(hand_of(), 500, 560, 600, 700)
        self.assertEqual(hand.pay(1), (1600, [(0, "base", 600, 160)]))
        hand.tell(("out", 650))
        hand.strike(("out", 700))
        self.assertEqual(hand.pay(1), (-500, [(0, "base", 600, -50)]))
        for stamp in hand.stamps():
            hand.strike(stamp)
        self.assertEqual(hand.pay(4), (-1100, [(0, "base", 600, -110)]))
        self.assertEqual(hand.payments(), [(1, 1600), (1, -500), (4, -1100)])
        self.assertEqual(hand.left(), 0)

    def test_another_book_from_a_week_that_was_paid(self):
        hand = told_stamps(hand_of(), 500, 560, 10580, 10640)
        self.assertEqual(hand.pay(2)[0], 1200)
        hand.book_from(1, rated(PLAIN, base=700, late=0, rest=0))
        # Of this day and sort the line of the one rate goes, and that of the other comes.
        self.assertEqual(hand.pay(2), (100, [(7, "base", 600, -60), (7, "base", 700, 60)]))
        hand.book_from(0, ("late", (("late", 600),), ()))
        self.assertEqual(hand.pay(3), (0, [(0, "base", 600, -60), (0, "late", 600, 60)]))
        hand.undo()
        hand.undo()
        self.assertEqual(hand.pay(3), (-100, [(0, "base", 600, 60), (0, "late", 600, -60),
                                              (7, "base", 600, 60), (7, "base", 700, -60)]))

    def test_a_feast_behind(self):
        hand = told_stamps(hand_of(ruled(rule("high", 1, "late", ("feast",)))), 500, 560)
        hand.pay(1)
        hand.feast(0)
        self.assertEqual(hand.pay(1), (300, [(0, "base", 600, -60), (0, "late", 900, 60)]))

    def test_undoing_behind_a_payment_undoes_no_payment(self):
        hand = told_stamps(hand_of(), 500, 560)
        self.assertEqual(hand.pay(1), (600, [(0, "base", 600, 60)]))
        self.assertIs(hand.undo(), True)
        self.assertEqual(hand.payments(), [(1, 600)])
        # By a guessed end there are as many minutes.
        self.assertEqual(hand.pay(1), (0, []))
        self.assertIs(hand.undo(), True)
        self.assertIs(hand.undo(), False)
        self.assertEqual(hand.payments(), [(1, 600), (1, 0)])
        self.assertEqual(hand.pay(1), (-600, [(0, "base", 600, -60)]))
        self.assertIs(hand.undo(), False)

    def test_lines_that_make_no_coin(self):
        hand = told_stamps(by_rate(0), 500, 560)
        self.assertEqual(hand.pay(1), (0, [(0, "base", 0, 60)]))
        self.assertEqual(hand.pay(1), (0, []))
        hand.book_from(0, rated(PLAIN, base=0, late=5, rest=0))
        self.assertEqual(hand.pay(1), (0, []))


class Left(unittest.TestCase):

    def test_0_and_59(self):
        for minutes, coins, left in ((1, 0, 1), (59, 0, 59), (60, 1, 0), (61, 1, 1), (119, 1, 59), (120, 2, 0)):
            hand = told_stamps(by_rate(1), 500, 500 + minutes)
            self.assertEqual(hand.left(), 0)
            self.assertEqual(hand.pay(1)[0], coins)
            self.assertEqual(hand.left(), left)

    def test_a_rest_is_paid_with_the_next_one(self):
        hand = told_stamps(by_rate(1), 500, 559, 10580, 10581)
        self.assertEqual(hand.pay(1), (0, [(0, "base", 1, 59)]))
        self.assertEqual(hand.pay(2), (1, [(7, "base", 1, 1)]))
        self.assertEqual(hand.left(), 0)

    def test_rounded_down_also_below_0(self):
        hand = told_stamps(by_rate(1), 500, 560)
        self.assertEqual(hand.pay(1), (1, [(0, "base", 1, 60)]))
        hand.tell(("out", 559))
        hand.strike(("out", 560))
        self.assertEqual(hand.pay(1), (-1, [(0, "base", 1, -1)]))
        self.assertEqual(hand.left(), 59)
        hand.tell(("out", 501))
        hand.strike(("out", 559))
        self.assertEqual(hand.pay(1), (0, [(0, "base", 1, -58)]))
        self.assertEqual(hand.left(), 1)

    def test_just_what_counts_as_paid(self):
        hand = told_stamps(by_rate(1), 500, 507)
        hand.pay(1)
        told_stamps(hand, 600, 605)
        self.assertEqual(hand.left(), 7)
        hand.pay(1)
        self.assertEqual(hand.left(), 12)


class Refused(unittest.TestCase):

    def test_an_earlier_week(self):
        hand = told_stamps(hand_of(), 500, 560)
        hand.pay(5)
        told_stamps(hand, 600, 660)
        for week in (4, 1, 0):
            with self.assertRaises(Early) as caught:
                hand.pay(week)
            self.assertEqual(caught.exception.week, 5)
            self.assertEqual(hand.payments(), [(5, 600)])
        self.assertEqual(hand.pay(5), (600, [(0, "base", 600, 60)]))
        self.assertEqual(hand.pay(7)[0], 0)
        with self.assertRaises(Early) as caught:
            hand.pay(6)
        self.assertEqual(caught.exception.week, 7)

    def test_a_week_in_which_rules_quarrel(self):
        hand = told_stamps(hand_of(), 500, 650, 10580, 10730, 20660, 20810)
        hand.book_from(1, QUARRELS)
        self.assertEqual(hand.pay(1), (1500, [(0, "base", 600, 150)]))
        for week in (2, 3, 99206):
            with self.assertRaises(Quarrel) as caught:
                hand.pay(week)
            self.assertEqual((caught.exception.names, caught.exception.minute), (("a", "b"), 10680))
        self.assertEqual((hand.payments(), hand.left()), ([(1, 1500)], 0))
        # Nothing was changed by that: neither what was paid nor the week up to which.
        self.assertEqual(hand.pay(1), (0, []))
        hand.book_from(1, PLAIN)
        self.assertEqual(hand.pay(3)[1], [(7, "base", 600, 150), (14, "base", 600, 150)])

    def test_early_goes_ahead_of_quarrel(self):
        hand = told_stamps(hand_of(), 500, 650)
        hand.pay(3)
        hand.book_from(0, QUARRELS)
        with self.assertRaises(Early):
            hand.pay(2)
        with self.assertRaises(Quarrel):
            hand.pay(3)

    def test_a_refused_payment_is_no_deed(self):
        hand = told_stamps(hand_of(QUARRELS), 600, 650)
        with self.assertRaises(Quarrel):
            hand.pay(1)
        self.assertIs(hand.undo(), True)
        self.assertEqual(hand.stamps(), [("in", 600)])
        self.assertEqual((hand.payments(), hand.left()), ([], 0))


class Drawn(unittest.TestCase):

    def test_all_payments_come_to_what_is_due(self):
        chance = random.Random(63)
        below = refused = 0
        for _ in range(60):
            hand = Hand(EMPTY, 300, ("up", 7), EXACT, rated(LATE, base=7, late=11, rest=0))
            last, paid, lines_paid = 0, 0, []
            for _ in range(chance.randint(20, 90)):
                if chance.random() < 0.7:
                    deed = some_deed(chance, 28)
                    if deed[0] == "book_from":
                        rates = {sort: chance.choice([0, 1, 7, 600]) for sort in ("base", "late", "rest")}
                        deed = deed[0], deed[1], rated(deed[2], **rates)
                    do(hand, deed)
                    continue
                if chance.random() < 0.3:
                    hand.undo()
                    continue
                week = max(0, last + chance.choice([-1, 0, 0, 1, 1]))
                ahead = all_of(hand, range(4)), hand.payments(), hand.left()
                try:
                    coins, more = hand.pay(week)
                except Early as early:
                    self.assertTrue(week < last == early.week)
                except Quarrel as quarrel:
                    refused += 1
                    self.assertTrue(last <= week and quarrel.minute < 10080 * week)
                else:
                    self.assertGreaterEqual(week, last)
                    last, paid = week, paid + coins
                    below += coins < 0
                    self.assertEqual(hand.payments(), ahead[1] + [(week, coins)])
                    lines_due = [row for earlier in range(week) for row in hand.week_lines(earlier)]
                    self.assertEqual(more, difference(lines_paid, lines_due))
                    lines_paid = difference([(*row[:3], -row[3]) for row in lines_paid], more)
                    self.assertEqual(lines_paid, lines_due)
                    self.assertEqual(60 * paid + hand.left(), worth(lines_due))
                    self.assertTrue(0 <= hand.left() < 60)
                    self.assertEqual(all_of(hand, range(4)), ahead[0])
                    continue
                self.assertEqual((all_of(hand, range(4)), hand.payments(), hand.left()), ahead)
        self.assertGreater(below, 20)
        self.assertGreater(refused, 10)

    def test_in_whatever_order_all_is_told_and_paid(self):
        chance = random.Random(64)
        for _ in range(30):
            stamps = [(word, 1440 * day + 480 + 60 * at + chance.randrange(60))
                      for day in range(14) for at, word in enumerate(["in", "out", "in", "out"])]
            told = []
            for _ in range(2):
                hand = by_rate(7)
                paid = 0
                for at, stamp in enumerate(chance.sample(stamps, len(stamps))):
                    hand.tell(stamp)
                    if at % 9 == 0:
                        paid += hand.pay(2)[0]
                paid += hand.pay(2)[0]
                told.append((paid, hand.left(), hand.sorts()))
            self.assertEqual(*told)


if __name__ == "__main__":
    unittest.main()
