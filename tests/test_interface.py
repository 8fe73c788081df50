"""The interface: each function and class in the file that lists it, with its arguments."""

import ast
import pathlib
import unittest

PACKAGE = pathlib.Path(__file__).parent.parent / "hourcoin"
FUNCTIONS = {
    "times": {"day_of": ["minute"], "clock_of": ["minute"], "week_of": ["minute"],
              "weekday_of": ["minute"], "place_of": ["minute"], "show_minute": ["minute"],
              "read_minute": ["text"]},
    "lots": {"is_lot": ["thing"], "lot_of": ["stretches"], "both": ["one", "other"],
             "without": ["one", "other"], "minutes_in": ["lot"]},
    "plans": {"is_plan": ["thing"], "shifts_on": ["plan", "day"],
              "with_standing": ["plan", "day", "shifts"], "with_single": ["plan", "day", "shifts"],
              "without_single": ["plan", "day"]},
    "held": {"held": ["plan", "lot", "first", "behind"]},
    "stamps": {"is_stamp": ["thing"], "in_order": ["stamps"],
               "stretches": ["stamps", "plan", "most"]},
    "roundings": {"is_rounding": ["thing"], "rounding_of": ["rounding", "plan"]},
    "counted": {"counted": ["some", "begins", "ends"], "added": ["some", "lot"],
                "taken": ["some", "lot"]},
    "books": {"is_name": ["thing"], "is_rule": ["thing"], "is_book": ["thing"],
              "rate_of": ["book", "sort"]},
    "cases": {"is_case": ["thing"], "holds": ["rule", "case"], "sort_in": ["book", "case"],
              "row_of": ["case"]},
    "sorting": {"sorted_out": ["lot", "feasts", "book"], "case_at": ["lot", "feasts", "minute"]},
    "quarrels": {"quarrel_of": ["book"]},
    "parting": {"parted": ["one", "other"], "parting_row": ["one", "other"],
                "shows_parted": ["one", "other", "thing"]},
    "paying": {"due": ["lot", "feasts", "book"], "lines": ["lot", "feasts", "book"], "worth": ["lines"],
               "difference": ["lines", "others"]},
    "rests": {"is_rest": ["thing"], "spells": ["lot", "rest"], "first_broken": ["lot", "rests"],
              "may_go_on": ["lot", "rests"], "rested_by": ["lot", "rests"]},
    "restlooks": {"shows_broken": ["lot", "rests", "thing"]},
    "texts": {"show_book": ["book"], "read_book": ["text"]},
    "logs": {"show_log": ["stamps"], "read_log": ["text"]},
}
CLASSES = {
    "errors": {"HourError": None, "Quarrel": ["names", "minute"], "Unsound": ["number"],
               "Worn": ["minute"], "Early": ["week"], "NoText": ["row"], "NoHand": ["name"],
               "Taken": ["name"], "NoStamp": None, "NoFeast": None, "NoSingle": None, "NoRow": None},
    "roundings": {"Rounding": None, "Down": ["step"], "Up": ["step"], "Near": ["step"],
                  "Graced": ["grace", "inner", "plan"]},
    "hands": {"Hand": ["plan", "most", "begins", "ends", "book"]},
    "desk": {"Desk": ["book", "rests"]},
}
# The methods that the interface lists for a class, each defined in that class itself.
METHODS = {
    "roundings": {name: {"of": ["minute"]} for name in ("Rounding", "Down", "Up", "Near", "Graced")},
    "hands": {"Hand": {"tell": ["stamp"], "feast": ["day"], "strike": ["stamp"], "ordinary": ["day"],
                       "usual": ["day"], "standing": ["day", "shifts"], "single": ["day", "shifts"],
                       "book_from": ["week", "book"], "undo": [], "stamps": [], "worked": [], "feasts": [],
                       "lot": [], "sorts": [], "week_lines": ["week"], "week_due": ["week"],
                       "pay": ["week"], "payments": [], "left": []}},
    "desk": {"Desk": {"say": ["row"]}},
}


def defined(module, kind):
    """What a file of the package defines of this kind at module level, by names."""
    tree = ast.parse((PACKAGE / (module + ".py")).read_text(encoding="utf-8"))
    return {node.name: node for node in tree.body if isinstance(node, kind)}


def arguments(function):
    """The names of the arguments that a function takes by place, all without defaults."""
    taken = function.args
    assert not (taken.vararg or taken.kwarg or taken.kwonlyargs or taken.defaults)
    return [one.arg for one in taken.posonlyargs + taken.args]


class Interface(unittest.TestCase):

    def test_functions(self):
        for module, functions in FUNCTIONS.items():
            there = defined(module, ast.FunctionDef)
            for name, wanted in functions.items():
                with self.subTest(module=module, name=name):
                    self.assertEqual(arguments(there[name]), wanted)

    def test_classes(self):
        for module, classes in CLASSES.items():
            there = defined(module, ast.ClassDef)
            for name, wanted in classes.items():
                with self.subTest(module=module, name=name):
                    methods = {node.name: node for node in there[name].body
                               if isinstance(node, ast.FunctionDef)}
                    if wanted is None:
                        self.assertNotIn("__init__", methods)
                    else:
                        self.assertEqual(arguments(methods["__init__"]), ["self", *wanted])

    def test_methods(self):
        for module, classes in METHODS.items():
            there = defined(module, ast.ClassDef)
            for name, wanted in classes.items():
                methods = {node.name: node for node in there[name].body
                           if isinstance(node, ast.FunctionDef)}
                for method, taken in wanted.items():
                    with self.subTest(module=module, name=name, method=method):
                        self.assertEqual(arguments(methods[method]), ["self", *taken])


if __name__ == "__main__":
    unittest.main()
