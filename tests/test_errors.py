"""Point [2]: the refusals."""

import inspect
import unittest

from hourcoin import errors

WITH_FIELD = {"Unsound": "number", "Worn": "minute", "Early": "week", "NoText": "row",
              "NoHand": "name", "Taken": "name"}
WITH_TEXT = ("NoStamp", "NoFeast", "NoSingle", "NoRow")


class Classes(unittest.TestCase):

    def test_hour_error_is_straight_under_value_error(self):
        self.assertEqual(errors.HourError.__bases__, (ValueError,))

    def test_each_stands_straight_under_hour_error(self):
        for name in ("Quarrel", *WITH_FIELD, *WITH_TEXT):
            with self.subTest(name):
                made = getattr(errors, name)
                self.assertEqual(made.__bases__, (errors.HourError,))
                self.assertEqual(made.__module__, "hourcoin.errors")
                self.assertEqual(made.__name__, name)

    def test_there_are_no_others(self):
        classes = inspect.getmembers(errors, inspect.isclass)
        self.assertEqual(sorted(name for name, _ in classes),
                         sorted(["HourError", "Quarrel", *WITH_FIELD, *WITH_TEXT]))


class Fields(unittest.TestCase):

    def test_quarrel(self):
        names = ("ab", "cd")
        self.assertEqual(errors.Quarrel(names, 7).names, ("ab", "cd"))
        self.assertEqual(errors.Quarrel(names, 7).minute, 7)
        self.assertEqual(errors.Quarrel(names, 0).minute, 0)
        self.assertIsNone(errors.Quarrel(names, None).minute)

    def test_single_fields(self):
        for name, field in WITH_FIELD.items():
            made = getattr(errors, name)
            self.assertEqual(list(inspect.signature(made).parameters), [field])
            for worth in ("ann",) if field == "name" else (0, 1, 999999359, -3, 10 ** 30):
                with self.subTest(name, worth=worth):
                    refusal = made(worth)
                    self.assertEqual(getattr(refusal, field), worth)
                    self.assertEqual(vars(refusal), {field: worth})

    def test_each_has_its_own_fields(self):
        one, other = errors.NoText(1), errors.NoText(2)
        self.assertEqual((one.row, other.row), (1, 2))

    def test_a_field_is_asked_for(self):
        for name in WITH_FIELD:
            with self.subTest(name), self.assertRaises(TypeError):
                getattr(errors, name)()
        with self.assertRaises(TypeError):
            errors.Quarrel(("ab", "cd"))

    def test_made_with_one_text(self):
        for name in WITH_TEXT:
            with self.subTest(name):
                self.assertEqual(str(getattr(errors, name)("no such one")), "no such one")

    def test_caught_by_name_and_as_any_refusal(self):
        for refusal in (errors.Quarrel(("ab", "cd"), 5), errors.Early(3), errors.NoRow("x")):
            for caught in (errors.HourError, ValueError, refusal.__class__):
                with self.subTest(refusal=refusal, caught=caught), self.assertRaises(caught):
                    raise refusal
        with self.assertRaises(errors.NoText):
            try:
                raise errors.NoText(0)
            except errors.NoRow:
                self.fail("NoText is no NoRow")


if __name__ == "__main__":
    unittest.main()
