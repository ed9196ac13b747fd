import itertools
import unittest
import unittest.mock

from handed import (
    BAD_ABOUTS, BAD_NAMES, BAD_SHORTS, GOOD_ABOUTS, GOOD_DEFAULTS, GOOD_NAMES, GOOD_SHORTS, LONG_DEFAULTS, NO_TEXTS,
    NO_TRUTHS, refusal,
)
from wordbench.errors import NoOption
from wordbench.options import Option, Place

ARGUMENTS = ["long", "short", "takes", "maker", "default", "needed", "off", "about"]
LEFT_OUT = ["", "flag", "word", None, False, False, ""]
FULL = ["level", "l", "last", "whole", "3", False, False, "How much is told."]
TAKES = ["flag", "count", "one", "last", "each"]
UNVALUED = ["flag", "count"]
VALUED = ["one", "last", "each"]
WITH_DEFAULT = ["one", "last"]


def told(option):
    return [getattr(option, name)() for name in ARGUMENTS]


class AsTold(unittest.TestCase):
    def told_again(self, name, value, **others):
        option = Option(**{"long": "level", name: value, **others})
        answer = getattr(option, name)()
        self.assertEqual(answer, value)
        self.assertIs(answer.__class__, value.__class__)

    def test_long(self):
        for value in GOOD_NAMES:
            with self.subTest(value):
                self.told_again("long", value)

    def test_short(self):
        for value in GOOD_SHORTS:
            with self.subTest(value):
                self.told_again("short", value)

    def test_takes(self):
        for value in TAKES:
            with self.subTest(value):
                self.told_again("takes", value)

    def test_maker_of_each_takes(self):
        for value, takes in itertools.product(GOOD_NAMES, TAKES):
            with self.subTest(value=value, takes=takes):
                self.told_again("maker", value, takes=takes)

    def test_default(self):
        for value, takes in itertools.product(GOOD_DEFAULTS, WITH_DEFAULT):
            with self.subTest(value=value, takes=takes):
                self.told_again("default", value, takes=takes)

    def test_no_default_of_each_takes(self):
        for takes in TAKES:
            with self.subTest(takes):
                self.assertIs(Option("level", takes=takes, default=None).default(), None)

    def test_needed(self):
        for takes in VALUED:
            with self.subTest(takes):
                self.told_again("needed", True, takes=takes)
        for takes in TAKES:
            with self.subTest(takes):
                self.told_again("needed", False, takes=takes)

    def test_not_needed_with_a_default(self):
        for takes in WITH_DEFAULT:
            with self.subTest(takes):
                self.told_again("needed", False, takes=takes, default="")

    def test_off(self):
        for takes in UNVALUED:
            with self.subTest(takes):
                self.told_again("off", True, takes=takes)
        for takes in TAKES:
            with self.subTest(takes):
                self.told_again("off", False, takes=takes)

    def test_about(self):
        for value in GOOD_ABOUTS:
            with self.subTest(value):
                self.told_again("about", value)

    def test_by_place(self):
        for many in range(1, 9):
            with self.subTest(many):
                self.assertEqual(told(Option(*FULL[:many])), FULL[:many] + LEFT_OUT[many - 1:])

    def test_by_name(self):
        self.assertEqual(told(Option(**dict(zip(ARGUMENTS, FULL)))), FULL)
        backwards = dict(reversed(list(zip(ARGUMENTS, FULL))))
        self.assertEqual(told(Option(**backwards)), FULL)

    def test_by_place_and_by_name(self):
        option = Option("level", "l", about="How much.", takes="each", needed=True)
        self.assertEqual(told(option), ["level", "l", "each", "word", None, True, False, "How much."])

    def test_left_out(self):
        self.assertEqual(told(Option("level")), ["level"] + LEFT_OUT)
        self.assertEqual(told(Option(long="level", off=True)), ["level", "", "flag", "word", None, False, True, ""])

    def test_told_again_the_same(self):
        option = Option(*FULL)
        self.assertEqual([told(option), told(option)], [FULL, FULL])

    def test_two_options_know_nothing_of_one_another(self):
        first, second = Option("a", "b"), Option("c", "d")
        self.assertEqual([first.long(), first.short(), second.long(), second.short()], ["a", "b", "c", "d"])

    def test_its_methods_are_its_own(self):
        for name in ARGUMENTS + ["__eq__", "__repr__"]:
            with self.subTest(name):
                self.assertIn(name, vars(Option))


class Refused(unittest.TestCase):
    def refused(self, field, **named):
        error = refusal(self, NoOption, Option, **{"long": "level", **named})
        self.assertEqual(error.field, field)

    def refused_each(self, field, values, **named):
        for value in values:
            with self.subTest(repr(value) if isinstance(value, str) else str(value.__class__)):
                self.refused(field, **{**named, field: value})

    def test_long(self):
        self.refused_each("long", BAD_NAMES + NO_TEXTS)

    def test_short(self):
        self.refused_each("short", BAD_SHORTS + NO_TEXTS)

    def test_takes(self):
        wrong = ["", "Flag", "FLAG", "flags", "flag ", " flag", "fla", "many", "maybe", "some", "any", "o", "on", "none"]
        self.refused_each("takes", wrong + NO_TEXTS)

    def test_maker(self):
        for takes in TAKES:
            self.refused_each("maker", BAD_NAMES + NO_TEXTS, takes=takes)

    def test_default_too_long(self):
        for takes in WITH_DEFAULT:
            self.refused_each("default", LONG_DEFAULTS, takes=takes)

    def test_default_of_another_kind(self):
        for takes in TAKES:
            self.refused_each("default", [value for value in NO_TEXTS if value is not None], takes=takes)

    def test_default_of_those_that_have_none(self):
        for takes in ("flag", "count", "each"):
            self.refused_each("default", GOOD_DEFAULTS + LONG_DEFAULTS, takes=takes)

    def test_needed_of_another_kind(self):
        for takes in TAKES:
            self.refused_each("needed", NO_TRUTHS, takes=takes)

    def test_needed_of_flag_and_count(self):
        for takes in UNVALUED:
            self.refused("needed", takes=takes, needed=True)

    def test_needed_with_a_default(self):
        for takes, default in itertools.product(WITH_DEFAULT, GOOD_DEFAULTS):
            with self.subTest(takes=takes, default=default):
                self.refused("needed", takes=takes, default=default, needed=True)

    def test_off_of_another_kind(self):
        for takes in TAKES:
            self.refused_each("off", NO_TRUTHS, takes=takes)

    def test_off_of_valued_ones(self):
        for takes in VALUED:
            self.refused("off", takes=takes, off=True)

    def test_about(self):
        self.refused_each("about", BAD_ABOUTS + NO_TEXTS)

    def test_by_place(self):
        wrong = ["no-a", "ab", "none", "", 5, 1, 1, " "]
        for at, field in enumerate(ARGUMENTS):
            handed = FULL[:at] + [wrong[at]] + FULL[at + 1:]
            with self.subTest(field):
                self.assertEqual(refusal(self, NoOption, Option, *handed).field, field)

    def test_the_first_of_several(self):
        for many in range(2, len(ARGUMENTS) + 1):
            for fields in itertools.combinations(ARGUMENTS, many):
                with self.subTest(fields):
                    self.refused(fields[0], **{field: [] for field in fields})

    def test_the_first_of_two_that_do_not_go_together(self):
        self.refused("default", takes="flag", default="a", needed=True)
        self.refused("default", takes="each", default="a", needed=True, off=True)
        self.refused("needed", takes="flag", needed=True, off=1)
        self.refused("needed", takes="one", default="a", needed=True, off=True)
        self.refused("off", takes="one", off=True, about=" ")
        self.refused("takes", takes="none", default="a", needed=True, off=True)

    def test_refused_again_alike(self):
        for time in range(2):
            with self.subTest(time):
                self.refused("short", short="ab")


class Equal(unittest.TestCase):
    def test_equal_where_all_eight_are(self):
        self.assertTrue(Option(*FULL) == Option(*FULL))
        self.assertFalse(Option(*FULL) != Option(*FULL))
        self.assertTrue(Option("a") == Option(long="a", takes="flag", default=None))
        option = Option("a")
        self.assertTrue(option == option)
        self.assertFalse(option != option)

    def test_not_equal_where_one_is_not(self):
        pairs = [
            (Option("a"), Option("b")),
            (Option("a", "x"), Option("a", "y")),
            (Option("a", "x"), Option("a", "X")),
            (Option("a", takes="flag"), Option("a", takes="count")),
            (Option("a", maker="word"), Option("a", maker="whole")),
            (Option("a", takes="one", default="x"), Option("a", takes="one", default="y")),
            (Option("a", takes="one", default=""), Option("a", takes="one")),
            (Option("a", takes="one", needed=True), Option("a", takes="one")),
            (Option("a", off=True), Option("a")),
            (Option("a", about="x"), Option("a", about="y")),
        ]
        for first, second in pairs:
            with self.subTest(f"{first} {second}"):
                self.assertFalse(first == second)
                self.assertFalse(second == first)
                self.assertTrue(first != second)
                self.assertTrue(second != first)

    def test_an_option_and_anything_else(self):
        option = Option("a", takes="one")
        others = [value for value in NO_TEXTS if value.__class__.__name__ != "Odd"]
        others += ["a", "Option", repr(option), told(option), tuple(told(option)), Place("a"), Option]
        for other in others:
            with self.subTest(str(other.__class__)):
                self.assertIs(option == other, False)
                self.assertIs(option != other, True)
                self.assertIs(other == option, False)
                self.assertIs(other != option, True)

    def test_one_that_equals_all_does_not_equal_an_option(self):
        self.assertIs(Option("a") == unittest.mock.ANY, False)

    def test_repr(self):
        self.assertEqual(repr(Option("a")), "Option('a', '', 'flag', 'word', None, False, False, '')")
        self.assertEqual(
            repr(Option(*FULL)), "Option('level', 'l', 'last', 'whole', '3', False, False, 'How much is told.')"
        )
        self.assertEqual(
            repr(Option("a", "B", "each", needed=True, about="it's \\")),
            "Option('a', 'B', 'each', 'word', None, True, False, \"it's \\\\\")",
        )
        self.assertEqual(repr(Option("a", off=True)), "Option('a', '', 'flag', 'word', None, False, True, '')")


if __name__ == "__main__":
    unittest.main()
