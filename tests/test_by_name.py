"""Each function and method, asked by its arguments' names and by their places."""

import importlib
import inspect
import unittest

from benches import a_bench, begun, sample_bench
from wordbench.answers import answer_of, read
from wordbench.commands import Command
from wordbench.desk import Desk
from wordbench.makers import Makers, own_makers
from wordbench.options import Option, Place

BENCH = sample_bench()
ROW = ["-v", "mor", "d"]
ANSWER = read(BENCH, ROW)
TREE = Command("root", [Option("a"), Option("a")])
CHOSEN = [Place("p")]

# Of each function and class: its file, its name, its arguments and what it is handed for each.
ASKED = [
    ("options", "Option", {"long": "a", "short": "b", "takes": "one", "maker": "m", "default": "d", "needed": False, "off": False, "about": "x y"}),
    ("options", "Place", {"name": "a", "many": "maybe", "maker": "m", "default": "d", "about": "x y"}),
    ("commands", "Command", {"name": "a", "options": [Option("o")], "places": CHOSEN, "groups": [["x", "y"]], "commands": [], "about": "x"}),
    ("clashes", "first_clash", {"command": TREE}),
    ("words", "kind_of", {"word": "--a"}),
    ("words", "long_parts", {"word": "--a=b"}),
    ("names", "meant", {"names": ["ab", "ac", "b"], "beginning": "a"}),
    ("names", "least_beginning", {"names": ["ab", "ac", "b"], "name": "ac"}),
    ("rowtexts", "row_text", {"words": ["a b", ""]}),
    ("rowtexts", "words_of", {"text": "'a b' ''"}),
    ("makers", "Makers", {"table": {"m": (str, "s")}}),
    ("makers", "own_makers", {}),
    ("makers", "one_of", {"words": ["ab", "b"]}),
    ("errors", "Unmade", {"why": "so"}),
    ("bench", "Bench", {"root": Command("r", places=CHOSEN), "makers": Makers(own_makers())}),
    ("readings", "Reading", {"bench": BENCH}),
    ("answers", "answer_of", {"reading": begun(BENCH, *ROW)}),
    ("answers", "read", {"bench": BENCH, "row": ROW}),
    ("ways", "units", {"bench": BENCH, "row": ROW}),
    ("ways", "spelled", {"bench": BENCH, "row": ROW}),
    ("ways", "clipped", {"bench": BENCH, "row": ROW}),
    ("faults", "fault", {"bench": BENCH, "row": ["zz"]}),
    ("faults", "right_words", {"bench": BENCH, "row": ["-v", "zz"]}),
    ("onward", "rest", {"bench": BENCH, "row": ["more"]}),
    ("onward", "onward", {"bench": BENCH, "row": ["more"]}),
    ("onward", "mended", {"bench": BENCH, "row": ["more", "zz"]}),
    ("usage", "filled", {"words": ["aaaaaaaaaa", "bbbbbbbbbb"], "width": 20, "first": "f", "later": "l"}),
    ("usage", "usage", {"bench": BENCH, "path": ["root", "copy"], "width": 30}),
    ("usage", "helped", {"bench": BENCH, "path": ["root", "copy"], "width": 30}),
    ("desk", "Desk", {"bench": BENCH}),
]

DEFAULTS = {
    "Option": {"short": "", "takes": "flag", "maker": "word", "default": None, "needed": False, "off": False, "about": ""},
    "Place": {"many": "one", "maker": "word", "default": None, "about": ""},
    "Command": {"options": None, "places": None, "groups": None, "commands": None, "about": ""},
    "Unmade": {"why": ""},
    "filled": {"first": "", "later": ""},
    "usage": {"width": 72},
    "helped": {"width": 72},
}

# Of each method: a function that makes a new object, the method's name and its arguments.
METHODS = [
    (lambda: Makers(own_makers()), "names", {}),
    (lambda: Makers(own_makers()), "sample", {"name": "whole"}),
    (lambda: Makers(own_makers()), "made", {"name": "whole", "word": "5"}),
    (lambda: a_bench(), "root", {}),
    (lambda: a_bench(), "makers", {}),
    (lambda: begun(BENCH, "-v"), "take", {"word": "more"}),
    (lambda: begun(BENCH, "-v"), "words", {}),
    (lambda: begun(BENCH, "-v"), "path", {}),
    (lambda: begun(BENCH, "-a"), "awaited", {}),
    (lambda: begun(BENCH, "-v"), "said", {"name": "verbose"}),
    (lambda: begun(BENCH, "-v"), "parts", {}),
    (lambda: begun(BENCH, *ROW), "end", {}),
    (lambda: begun(BENCH, *ROW), "copied", {}),
    (lambda: ANSWER, "path", {}),
    (lambda: ANSWER, "value", {"name": "verbose", "depth": 0}),
    (lambda: ANSWER, "times", {"name": "verbose", "depth": 0}),
    (lambda: ANSWER, "written", {}),
    (lambda: Desk(BENCH), "say", {"row": "read more down"}),
]


def shown(thing):
    """What can be compared of a thing that is told: of an object of the package, all that it holds."""
    if hasattr(thing, "__dict__") and thing.__class__.__module__.startswith("wordbench."):
        return thing.__class__, {name: shown(value) for name, value in vars(thing).items()}
    if isinstance(thing, (list, tuple)):
        return [shown(each) for each in thing]
    if isinstance(thing, dict):
        return {name: shown(value) for name, value in thing.items()}
    return thing.__qualname__ if callable(thing) else thing


class Functions(unittest.TestCase):
    def test_by_names_as_by_places(self):
        for file, name, handed in ASKED:
            with self.subTest(f"{file}.{name}"):
                ask = getattr(importlib.import_module(f"wordbench.{file}"), name)
                by_place = shown(ask(*handed.values()))
                self.assertEqual(shown(ask(**handed)), by_place)
                self.assertEqual(shown(ask(**dict(reversed(handed.items())))), by_place)

    def test_the_names_and_the_defaults(self):
        for file, name, handed in ASKED:
            with self.subTest(f"{file}.{name}"):
                ask = getattr(importlib.import_module(f"wordbench.{file}"), name)
                parameters = inspect.signature(ask).parameters
                self.assertEqual(list(parameters), list(handed))
                defaults = {key: each.default for key, each in parameters.items() if each.default is not inspect.Parameter.empty}
                self.assertEqual(defaults, DEFAULTS.get(name, {}))

    def test_makers_of_some_words(self):
        one_of = importlib.import_module("wordbench.makers").one_of
        self.assertEqual(one_of(words=["ab", "b"])("a"), one_of(["ab", "b"])("a"))


class Methods(unittest.TestCase):
    def test_by_names_as_by_places(self):
        for make, name, handed in METHODS:
            with self.subTest(f"{make().__class__.__name__}.{name}"):
                first, second = make(), make()
                by_place = shown(getattr(first, name)(*handed.values()))
                self.assertEqual(shown(getattr(second, name)(**handed)), by_place)
                self.assertEqual(shown(first), shown(second))
                self.assertEqual(list(inspect.signature(getattr(first, name)).parameters), list(handed))

    def test_of_options_places_and_commands(self):
        for make, names in ((Option, ASKED[0][2]), (Place, ASKED[1][2]), (Command, ASKED[2][2])):
            thing = make(**names)
            for name, value in names.items():
                self.assertEqual(getattr(thing, name)(), value)

    def test_a_depth_of_none(self):
        self.assertEqual(ANSWER.value("verbose", None), 1)
        self.assertEqual(ANSWER.value(name="verbose", depth=None), 1)
        self.assertEqual(ANSWER.times(name="verbose", depth=None), 1)

    def test_answers_made_by_either(self):
        self.assertEqual(answer_of(reading=begun(BENCH, *ROW)), ANSWER)


if __name__ == "__main__":
    unittest.main()
