import importlib
import inspect
import unittest

from springframe.errors import FrameError

# Modules, and in each the names with their arguments, as the document's interface tells them.
INTERFACE = {
    "parts": {"part": "top bottom", "plus": "one other", "minus": "one other", "times": "one other", "over": "one other",
              "under": "one other"},
    "sums": {"made": "parts rest", "added": "one other", "reduced": "one other", "scaled": "one number",
             "put_in": "one unknown other", "value_at": "one placing", "unknowns": "one"},
    "words": {"Term": "", "Number": "number", "Edge": "word name", "Times": "number inner", "Plus": "one other",
              "Minus": "one other"},
    "wishes": {"Wish": "near far rank weight", "Just": "near far rank weight", "AtLeast": "near far rank weight",
               "AtMost": "near far rank weight"},
    "reading": {"read_wish": "text", "read_sum": "text"},
    "figures": {"read_number": "word", "show_number": "number"},
    "rows": {"row": "parts kind number rank weight", "sum_at": "one placing", "missed": "one placing",
             "fits": "rows placing", "goal_at": "rows goal placing"},
    "least": {"least": "rows unknowns one"},
    "papers": {"bound": "rows unknowns settled goal paper", "shows_clash": "rows unknowns numbers weights"},
    "laying": {"laid": "rows unknowns", "spared": "rows unknowns numbers"},
    "frames": {"Frame": "width height"},
    "forms": {"filled": "lines names", "row_of": "names space", "column_of": "names space", "grid": "names many space",
              "alike": "names", "alike_high": "names"},
    "growing": {"rows_at": "growing width", "growth": "growing unknowns start stop", "along": "told start width"},
    "drawings": {"drawn": "places wide high"},
    "desks": {"Desk": "width height"},
}
METHODS = {
    "words": {name: {"worth": "", "text": "", "ways": ""} for name in ("Number", "Edge", "Times", "Plus", "Minus")},
    "wishes": {name: {"way": "", "row": "", "missed": "placing", "text": ""} for name in ("Just", "AtLeast", "AtMost")},
    "frames": {"Frame": {"resize": "width height", "pane": "name", "remove": "name", "panes": "", "wish": "text",
                         "take": "number", "weigh": "number rank weight", "wishes": "", "pull": "text value",
                         "let_go": "", "places": "", "spans": "", "state": "number"}},
    "desks": {"Desk": {"say": "line"}},
}
REFUSALS = {"NoPart": "", "NoWish": "", "Mixed": "", "NoRank": "", "TooMany": "", "NoPaper": "", "NoName": "", "Taken": "",
            "NoPane": "", "Named": "", "NoSuch": "", "NoSize": "", "NoLine": "", "Clash": "numbers weights",
            "Stuck": "direction numbers weights"}


def arguments(thing):
    return [name for name in inspect.signature(thing).parameters if name != "self"]


def module(name):
    return importlib.import_module(f"springframe.{name}")


class TestInterface(unittest.TestCase):
    def test_names_and_arguments(self):
        for place, things in INTERFACE.items():
            for name, told in things.items():
                with self.subTest(f"{place}.{name}"):
                    thing = getattr(module(place), name)
                    self.assertEqual(thing.__module__, f"springframe.{place}")
                    self.assertEqual(inspect.isclass(thing), name[0].isupper())
                    if told or not inspect.isclass(thing):
                        self.assertEqual(arguments(thing), told.split())

    def test_methods(self):
        for place, kinds in METHODS.items():
            for kind, methods in kinds.items():
                for name, told in methods.items():
                    with self.subTest(f"{place}.{kind}.{name}"):
                        self.assertEqual(arguments(getattr(getattr(module(place), kind), name)), told.split())

    def test_refusals(self):
        for name, fields in REFUSALS.items():
            with self.subTest(name):
                kind = getattr(module("errors"), name)
                self.assertEqual(kind.__bases__, (FrameError,))
                values = [[number] for number, field in enumerate(fields.split())]
                if fields:
                    made = kind(*values)
                    self.assertEqual([getattr(made, field) for field in fields.split()], values)
        self.assertEqual(FrameError.__bases__, (ValueError,))

    def test_which_class_stands_under_which(self):
        for place, base, kinds in (("words", "Term", ("Number", "Edge", "Times", "Plus", "Minus")),
                                   ("wishes", "Wish", ("Just", "AtLeast", "AtMost"))):
            for kind in kinds:
                self.assertEqual(getattr(module(place), kind).__bases__, (getattr(module(place), base),))

    def test_rank_and_weight_may_be_left_out(self):
        given = inspect.signature(module("rows").row).parameters
        self.assertEqual((given["rank"].default, given["weight"].default), (0, 1))
        self.assertEqual(module("rows").row({}, "least", (1, 1)), ({}, "least", (1, 1), 0, 1))


if __name__ == "__main__":
    unittest.main()
