import itertools
import unittest
import unittest.mock

from handed import (
    BAD_ABOUTS, BAD_NAMES, GOOD_ABOUTS, GOOD_DEFAULTS, GOOD_NAMES, LONG_DEFAULTS, NO_TEXTS, refusal,
)
from wordbench.errors import NoPlace
from wordbench.options import Option, Place

ARGUMENTS = ["name", "many", "maker", "default", "about"]
LEFT_OUT = ["one", "word", None, ""]
FULL = ["target", "maybe", "pair", "a:b", "Where it goes."]
MANIES = ["one", "maybe", "some", "any"]


def told(place):
    return [getattr(place, name)() for name in ARGUMENTS]


class AsTold(unittest.TestCase):
    def told_again(self, name, value, **others):
        place = Place(**{"name": "target", name: value, **others})
        answer = getattr(place, name)()
        self.assertEqual(answer, value)
        self.assertIs(answer.__class__, value.__class__)

    def test_name(self):
        for value in GOOD_NAMES:
            with self.subTest(value):
                self.told_again("name", value)

    def test_many(self):
        for value in MANIES:
            with self.subTest(value):
                self.told_again("many", value)

    def test_maker_of_each_many(self):
        for value, many in itertools.product(GOOD_NAMES, MANIES):
            with self.subTest(value=value, many=many):
                self.told_again("maker", value, many=many)

    def test_default(self):
        for value in GOOD_DEFAULTS:
            with self.subTest(value):
                self.told_again("default", value, many="maybe")

    def test_no_default_of_each_many(self):
        for many in MANIES:
            with self.subTest(many):
                self.assertIs(Place("target", many=many, default=None).default(), None)

    def test_about(self):
        for value in GOOD_ABOUTS:
            with self.subTest(value):
                self.told_again("about", value)

    def test_by_place(self):
        for many in range(1, 6):
            with self.subTest(many):
                self.assertEqual(told(Place(*FULL[:many])), FULL[:many] + LEFT_OUT[many - 1:])

    def test_by_name(self):
        self.assertEqual(told(Place(**dict(zip(ARGUMENTS, FULL)))), FULL)
        backwards = dict(reversed(list(zip(ARGUMENTS, FULL))))
        self.assertEqual(told(Place(**backwards)), FULL)

    def test_by_place_and_by_name(self):
        self.assertEqual(told(Place("a", about="b", maker="whole")), ["a", "one", "whole", None, "b"])

    def test_left_out(self):
        self.assertEqual(told(Place("target")), ["target"] + LEFT_OUT)

    def test_told_again_the_same(self):
        place = Place(*FULL)
        self.assertEqual([told(place), told(place)], [FULL, FULL])

    def test_two_places_know_nothing_of_one_another(self):
        first, second = Place("a", "some"), Place("b", "any")
        self.assertEqual([first.name(), first.many(), second.name(), second.many()], ["a", "some", "b", "any"])

    def test_its_methods_are_its_own(self):
        for name in ARGUMENTS + ["__eq__", "__repr__"]:
            with self.subTest(name):
                self.assertIn(name, vars(Place))


class Refused(unittest.TestCase):
    def refused(self, field, **named):
        error = refusal(self, NoPlace, Place, **{"name": "target", **named})
        self.assertEqual(error.field, field)

    def refused_each(self, field, values, **named):
        for value in values:
            with self.subTest(repr(value) if isinstance(value, str) else str(value.__class__)):
                self.refused(field, **{**named, field: value})

    def test_name(self):
        self.refused_each("name", BAD_NAMES + NO_TEXTS)

    def test_many(self):
        wrong = ["", "One", "ONE", "one ", " one", "on", "ones", "flag", "count", "last", "each", "none"]
        self.refused_each("many", wrong + NO_TEXTS)

    def test_maker(self):
        for many in MANIES:
            self.refused_each("maker", BAD_NAMES + NO_TEXTS, many=many)

    def test_default_too_long(self):
        self.refused_each("default", LONG_DEFAULTS, many="maybe")

    def test_default_of_another_kind(self):
        for many in MANIES:
            self.refused_each("default", [value for value in NO_TEXTS if value is not None], many=many)

    def test_default_of_those_that_have_none(self):
        for many in ("one", "some", "any"):
            self.refused_each("default", GOOD_DEFAULTS + LONG_DEFAULTS, many=many)

    def test_about(self):
        self.refused_each("about", BAD_ABOUTS + NO_TEXTS)

    def test_by_place(self):
        wrong = ["no-a", "none", "", 5, " "]
        for at, field in enumerate(ARGUMENTS):
            handed = FULL[:at] + [wrong[at]] + FULL[at + 1:]
            with self.subTest(field):
                self.assertEqual(refusal(self, NoPlace, Place, *handed).field, field)

    def test_the_first_of_several(self):
        for many in range(2, len(ARGUMENTS) + 1):
            for fields in itertools.combinations(ARGUMENTS, many):
                with self.subTest(fields):
                    self.refused(fields[0], **{field: [] for field in fields})

    def test_the_first_of_two_that_do_not_go_together(self):
        self.refused("default", many="one", default="a", about=" ")
        self.refused("many", many="none", default="a")


class Equal(unittest.TestCase):
    def test_equal_where_all_five_are(self):
        self.assertTrue(Place(*FULL) == Place(*FULL))
        self.assertFalse(Place(*FULL) != Place(*FULL))
        self.assertTrue(Place("a") == Place(name="a", many="one", default=None))

    def test_not_equal_where_one_is_not(self):
        pairs = [
            (Place("a"), Place("b")),
            (Place("a", "some"), Place("a", "any")),
            (Place("a", maker="word"), Place("a", maker="whole")),
            (Place("a", "maybe", default="x"), Place("a", "maybe", default="y")),
            (Place("a", "maybe", default=""), Place("a", "maybe")),
            (Place("a", about="x"), Place("a", about="y")),
        ]
        for first, second in pairs:
            with self.subTest(f"{first} {second}"):
                self.assertFalse(first == second)
                self.assertFalse(second == first)
                self.assertTrue(first != second)
                self.assertTrue(second != first)

    def test_a_place_and_anything_else(self):
        place = Place("a")
        others = [value for value in NO_TEXTS if value.__class__.__name__ != "Odd"]
        others += ["a", "Place", repr(place), told(place), tuple(told(place)), Option("a"), Place]
        for other in others:
            with self.subTest(str(other.__class__)):
                self.assertIs(place == other, False)
                self.assertIs(place != other, True)
                self.assertIs(other == place, False)
                self.assertIs(other != place, True)

    def test_one_that_equals_all_does_not_equal_a_place(self):
        self.assertIs(Place("a") == unittest.mock.ANY, False)

    def test_repr(self):
        self.assertEqual(repr(Place("a")), "Place('a', 'one', 'word', None, '')")
        self.assertEqual(repr(Place(*FULL)), "Place('target', 'maybe', 'pair', 'a:b', 'Where it goes.')")
        self.assertEqual(repr(Place("a", "some", about="it's")), "Place('a', 'some', 'word', None, \"it's\")")


if __name__ == "__main__":
    unittest.main()
