"""Point [4]: minutes, their days, clocks, weeks, weekdays and places, and minutes as texts."""

import unittest

from hourcoin.errors import NoText
from hourcoin.times import (clock_of, day_of, place_of, read_minute, show_minute, week_of,
                            weekday_of)
from tests.things import odd_things

LAST = 999999359
# (minute, day, clock, week, weekday, place, text)
KNOWN = (
    (0, 0, 0, 0, 0, 0, "0 00:00"),
    (1, 0, 1, 0, 0, 1, "0 00:01"),
    (59, 0, 59, 0, 0, 59, "0 00:59"),
    (60, 0, 60, 0, 0, 60, "0 01:00"),
    (1439, 0, 1439, 0, 0, 1439, "0 23:59"),
    (1440, 1, 0, 0, 1, 1440, "1 00:00"),
    (10079, 6, 1439, 0, 6, 10079, "6 23:59"),
    (10080, 7, 0, 1, 0, 0, "7 00:00"),
    (17705, 12, 425, 1, 5, 7625, "12 07:05"),
    (144000, 100, 0, 14, 2, 2880, "100 00:00"),
    (LAST - 1439, 694443, 0, 99206, 1, 1440, "694443 00:00"),
    (LAST, 694443, 1439, 99206, 1, 2879, "694443 23:59"),
)
# Bounds that are reckoned of minutes may lie beyond the last one.
BEYOND = (
    (LAST + 1, 694444, 0, 99206, 2, 2880, "694444 00:00"),
    (LAST + 1440, 694444, 1439, 99206, 2, 4319, "694444 23:59"),
    (1440 * 10 ** 20 + 61, 10 ** 20, 61, 10 ** 20 // 7, 10 ** 20 % 7, 1440 * (10 ** 20 % 7) + 61,
     "100000000000000000000 01:01"),
)
NO_TEXTS = (
    # signs more, fewer, or other ones
    "", " ", ":", "0", "12", "12 ", " 07:05", "07:05", "12 07", "12 07:", "12 :05", "12 7:05",
    "12 07:5", "12 007:05", "12 07:005", "12 07:050", "1207:05", "12 0705", "12 07:05:00",
    " 12 07:05", "12  07:05", "12 07:05 ", "12 07 :05", "12 07: 05", "1 2 07:05", "12 07:05 1",
    "12-07:05", "12,07:05", "12:07:05", "12 07.05", "12 07;05", "12 07 05", "12 07-05", "12 070505",
    "12 0a:05", "12 a7:05", "12 07:0b", "12 07:x5", "x 07:05", "12x 07:05", "x12 07:05", "0x1 07:05",
    "-1 07:05", "+1 07:05", "-0 00:00", "1_0 07:05", "1.0 07:05", "1e3 07:05", "1,000 07:05",
    "12 -7:05", "12 +7:05", "12 07:-5", "12 07:+5", "12 1_:05", "12 0_:05", "in 12 07:05",
    "day clock", "None", "[]", "12 ab:cd", "12 __:__", "12 07:05~", "~12 07:05", "(12, 425)",
    # line ends and what is not told of, too
    "\n", "12 07:05\n", "\n12 07:05", "12\n07:05", "12 07\n05", "12\n 07:05", "12 \n07:05",
    "12 07:05\n12 07:06", "12\t07:05", "12 07:05\r", "12 07:05\r\n", "12\u00a007:05",
    "\u0661 07:05", "\u00b2 07:05", "12 0\u0667:05", "12 07:\u0660\u0665", "12 07\uff1a05",
    # noughts ahead
    "00 00:00", "01 00:00", "012 07:05", "000000 00:00", "0000012 07:05", "0694443 23:59",
    # beyond a day's clocks, and beyond the last minute
    "12 24:00", "12 23:60", "12 07:60", "12 00:99", "12 99:99", "12 24:59", "12 -1:59",
    "694444 00:00", "694443 24:00", "694450 00:00", "700000 00:00", "999999 23:59",
    "1000000 00:00", "6944430 00:00", "100000000000000000000 01:01",
)


class Reckoned(unittest.TestCase):

    def test_known_minutes(self):
        for minute, day, clock, week, weekday, place, _ in KNOWN + BEYOND:
            with self.subTest(minute):
                told = [part(minute) for part in (day_of, clock_of, week_of, weekday_of, place_of)]
                self.assertEqual(told, [day, clock, week, weekday, place])
                self.assertEqual([one.__class__ for one in told], [int] * 5)

    def test_parts_belong_together(self):
        for minute in [*range(0, 30000, 7), *range(LAST - 20000, LAST + 3000, 11)]:
            self.assertEqual(1440 * day_of(minute) + clock_of(minute), minute)
            self.assertEqual(7 * week_of(minute) + weekday_of(minute), day_of(minute))
            self.assertEqual(10080 * week_of(minute) + place_of(minute), minute)
            self.assertTrue(0 <= clock_of(minute) < 1440 and 0 <= weekday_of(minute) < 7)


class Shown(unittest.TestCase):

    def test_known_minutes(self):
        for minute, *_, text in KNOWN + BEYOND:
            with self.subTest(minute):
                self.assertEqual(show_minute(minute), text)
                self.assertIs(show_minute(minute).__class__, str)

    def test_each_clock_of_a_day(self):
        for clock in range(1440):
            hours, minutes = str(clock // 60), str(clock % 60)
            text = "31 " + hours.rjust(2, "0") + ":" + minutes.rjust(2, "0")
            self.assertEqual(show_minute(31 * 1440 + clock), text)


class Read(unittest.TestCase):

    def refused(self, thing):
        with self.assertRaises(NoText) as caught:
            read_minute(thing)
        self.assertEqual(caught.exception.row, 0)
        self.assertIs(caught.exception.row.__class__, int)

    def test_known_minutes(self):
        for minute, *_, text in KNOWN:
            with self.subTest(text):
                self.assertEqual(read_minute(text), minute)
                self.assertIs(read_minute(text).__class__, int)

    def test_what_is_shown_is_read(self):
        for minute in [*range(2000), *range(LAST - 2000, LAST + 1), *range(0, LAST, 999983)]:
            self.assertEqual(read_minute(show_minute(minute)), minute)

    def test_days_of_each_count_of_figures(self):
        for day in (9, 10, 99, 100, 999, 1000, 9999, 10000, 99999, 100000, 694439, 694443):
            self.assertEqual(read_minute(f"{day} 00:00"), 1440 * day)

    def test_no_minutes_texts(self):
        for text in NO_TEXTS:
            with self.subTest(text):
                self.refused(text)

    def test_bounds_beyond_the_last_minute_are_not_read(self):
        for _, *_, text in BEYOND:
            self.refused(text)

    def test_each_sign_more_fewer_or_another(self):
        text = "12 07:05"
        signs = [chr(number) for number in range(32, 127)] + ["\n"]
        for at in range(len(text) + 1):
            for sign in signs:
                for other in (text[:at] + sign + text[at:], text[:at] + sign + text[at + 1:],
                              text[:at] + text[at + 1:]):
                    self.refused_or_shown(other)

    def refused_or_shown(self, text):
        """A text is read as the minute that is shown so, and refused where there is none."""
        try:
            minute = read_minute(text)
        except NoText as refusal:
            self.assertEqual(refusal.row, 0)
            day, _, clock = text.partition(" ")
            self.assertFalse(clock in CLOCKS and day in DAYS, text)
        else:
            self.assertEqual(show_minute(minute), text)

    def test_thousands_of_figures(self):
        for text in ("9" * 5000 + " 00:00", "0" * 5000 + " 00:00", "0" * 5000 + "1 00:00",
                     "1" + "0" * 100000 + " 07:05", "12 " + "0" * 5000 + ":05", "9" * 5000,
                     "12 07:" + "5" * 5000, " " * 10000, "12 07:05\n" * 10000):
            self.refused(text)

    def test_anything(self):
        for thing in odd_things() + [17705, ["12 07:05"], ("12 07:05",), {"12 07:05": 1}, (12, 425),
                                     ("12", "07:05"), b"12 07:05"]:
            self.refused(thing)


DAYS = {str(day) for day in range(10000)}
CLOCKS = {f"{hour:02}:{minute:02}" for hour in range(24) for minute in range(60)}


if __name__ == "__main__":
    unittest.main()
