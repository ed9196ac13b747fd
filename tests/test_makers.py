import itertools
import unittest

from handed import BAD_NAMES, GOOD_NAMES, refusal
from wordbench.errors import BenchError, NoMaker, NoName, Unmade
from wordbench.makers import Makers, own_makers

NO_PLAIN_WORDS = ["--", "--a", "--a=b", "---", "--=", "-a", "-ab", "-=", "- ", "-1"]
PLAIN_WORDS = ["", "-", "a", "a-", " -a", "a b", "'", "=--", "a" * 60]


def same(word):
    return word


def never(word):
    raise Unmade(f"nothing of {word}")


def measured(word):
    if len(word) > 3:
        raise Unmade("too long")
    return len(word)


class AsTold(unittest.TestCase):
    def test_names_sorted(self):
        names = ["b", "a-b", "ab", "a", "1", "a1", "abc"]
        for order in (names, names[::-1], sorted(names)):
            with self.subTest(order):
                makers = Makers({name: (same, "x") for name in order})
                self.assertIs(makers.names().__class__, list)
                self.assertEqual(makers.names(), ["1", "a", "a-b", "a1", "ab", "abc", "b"])

    def test_names_is_a_new_list_each_time(self):
        makers = Makers({"b": (same, "x"), "a": (same, "y")})
        makers.names().append("c")
        makers.names().clear()
        self.assertEqual(makers.names(), ["a", "b"])
        self.assertEqual(makers.sample("b"), "x")

    def test_no_makers(self):
        makers = Makers({})
        self.assertEqual(makers.names(), [])
        self.assertEqual(refusal(self, NoName, makers.sample, "a").who, "a")

    def test_each_name_that_may_be(self):
        for name in GOOD_NAMES:
            with self.subTest(name):
                self.assertEqual(Makers({name: (same, "x")}).names(), [name])

    def test_twelve(self):
        makers = Makers({f"m{number}": (same, f"s{number}") for number in range(12)})
        self.assertEqual([makers.sample(f"m{number}") for number in range(12)], [f"s{number}" for number in range(12)])

    def test_sample_by_name(self):
        for sample in PLAIN_WORDS:
            with self.subTest(sample):
                makers = Makers({"b": (same, "x"), "a": (same, sample)})
                self.assertEqual([makers.sample("a"), makers.sample("b"), makers.sample("a")], [sample, "x", sample])

    def test_made_by_name(self):
        makers = Makers({"same": (same, "x"), "measured": (measured, "")})
        self.assertEqual(makers.made("same", "abc"), "abc")
        self.assertEqual(makers.made("measured", "abc"), 3)
        self.assertEqual(makers.made("same", "--abc"), "--abc")

    def test_by_argument_names(self):
        makers = Makers(table={"measured": (measured, "x")})
        self.assertEqual(makers.sample(name="measured"), "x")
        self.assertEqual(makers.made(word="ab", name="measured"), 2)

    def test_its_methods_are_its_own(self):
        for name in ("names", "sample", "made"):
            with self.subTest(name):
                self.assertIn(name, vars(Makers))


class Values(unittest.TestCase):
    def test_the_very_thing_that_the_maker_tells(self):
        for value in ([], ["a", ["b"]], {}, {"a": []}, object(), ("a",), None, False, 0, ""):
            with self.subTest(repr(value)):
                makers = Makers({"a": (lambda word: value, "x")})
                self.assertIs(makers.made("a", "b"), value)
                self.assertIs(makers.made("a", "c"), value)

    def test_a_list_stays_the_makers(self):
        told = ["a"]
        makers = Makers({"a": (lambda word: told, "x")})
        makers.made("a", "b").append("c")
        self.assertEqual(told, ["a", "c"])
        self.assertEqual(makers.made("a", "b"), ["a", "c"])

    def test_the_maker_is_asked_once_for_the_word_and_not_for_the_sample(self):
        asked = []
        makers = Makers({"a": (lambda word: asked.append(word), "x"), "b": (same, "y")})
        asked.clear()
        makers.made("a", "w")
        self.assertEqual(asked, ["w"])
        makers.made("b", "v")
        makers.sample("a")
        makers.names()
        self.assertEqual(asked, ["w"])

    def test_unmade_as_the_maker_raises_it(self):
        raised = Unmade("not this one")

        def picky(word):
            if word == "bad":
                raise raised
            return word

        makers = Makers({"a": (picky, "x"), "b": (measured, "x")})
        self.assertIs(refusal(self, Unmade, makers.made, "a", "bad"), raised)
        self.assertEqual(raised.why, "not this one")
        self.assertEqual(refusal(self, Unmade, makers.made, "b", "long").why, "too long")
        self.assertEqual(makers.made("a", "good"), "good")

    def test_unmade_without_a_text(self):
        def bare(word):
            if word:
                raise Unmade()
            return word

        self.assertEqual(refusal(self, Unmade, Makers({"a": (bare, "")}).made, "a", "x").why, "")

    def test_a_name_that_is_not_there(self):
        makers = Makers({"same": (same, "x")})
        for name in ("sam", "same2", "", "x", "Same", "word"):
            with self.subTest(name):
                self.assertEqual(refusal(self, NoName, makers.sample, name).who, name)
                self.assertEqual(refusal(self, NoName, makers.made, name, "x").who, name)
        self.assertEqual(makers.names(), ["same"])

    def test_no_name_of_any_table_asks_no_maker(self):
        asked = []
        makers = Makers({"a": (lambda word: asked.append(word), "x")})
        asked.clear()
        refusal(self, NoName, makers.made, "b", "y")
        self.assertEqual(asked, [])


class Refused(unittest.TestCase):
    def refused(self, table, who):
        before = list(table.items())
        self.assertEqual(refusal(self, NoMaker, Makers, table).who, who)
        self.assertEqual(list(table.items()), before)

    def test_a_text_that_is_no_name(self):
        for name in BAD_NAMES:
            with self.subTest(name):
                self.refused({name: (same, "x")}, name)

    def test_a_sample_that_is_no_plain_word(self):
        for sample in NO_PLAIN_WORDS:
            with self.subTest(sample):
                self.refused({"a": (same, sample)}, "a")

    def test_a_sample_that_is_no_text(self):
        for sample in (None, 5, True, ["x"], b"x"):
            with self.subTest(repr(sample)):
                self.refused({"a": (same, sample)}, "a")

    def test_a_sample_of_which_its_maker_raises_unmade(self):
        self.refused({"a": (never, "x")}, "a")
        self.refused({"a": (measured, "long")}, "a")
        self.assertEqual(Makers({"a": (measured, "lon")}).names(), ["a"])

    def test_the_first_of_several_in_the_order_of_the_dict(self):
        wrong = {"no-x": (same, "x"), "b": (same, "--b"), "a": (never, "x")}
        for order in itertools.permutations(wrong):
            with self.subTest(order):
                self.refused({name: wrong[name] for name in order}, order[0])

    def test_a_wrong_one_behind_right_ones(self):
        right = {"z": (same, "x"), "a": (measured, "")}
        self.refused({**right, "m": (same, "-x"), "": (same, "y")}, "m")
        self.refused({**right, "": (same, "y"), "m": (same, "-x")}, "")
        self.refused({"m": (never, "x"), **right}, "m")

    def test_one_with_everything_wrong(self):
        self.refused({"A": (never, "--"), "B": (never, "--")}, "A")

    def test_no_maker_of_a_wrong_one_is_asked_ahead(self):
        asked = []
        self.refused({"A": (asked.append, "x")}, "A")
        self.refused({"a": (asked.append, "-x")}, "a")
        self.refused({"a": (never, "x"), "b": (asked.append, "x")}, "a")
        self.assertEqual(asked, [])

    def test_values_that_count_as_nothing_are_let_by(self):
        for value in (None, False, 0, "", [], (), {}):
            with self.subTest(repr(value)):
                makers = Makers({"a": (lambda word: value, "x")})
                self.assertEqual(makers.names(), ["a"])

    def test_refused_again_alike(self):
        table = {"a": (same, "x"), "b": (never, "y")}
        self.refused(table, "b")
        self.refused(table, "b")


class TheTable(unittest.TestCase):
    def test_it_is_not_changed(self):
        table = {"b": (same, "x"), "a": (measured, "y")}
        makers = Makers(table)
        makers.names(), makers.sample("a"), makers.made("b", "x")
        self.assertEqual(list(table.items()), [("b", (same, "x")), ("a", (measured, "y"))])

    def test_changed_behind_the_call(self):
        table = {"b": (same, "x"), "a": (measured, "y")}
        makers = Makers(table)
        table["a"] = (never, "z")
        table["c"] = (same, "w")
        del table["b"]
        self.assertEqual(makers.names(), ["a", "b"])
        self.assertEqual([makers.sample("a"), makers.sample("b")], ["y", "x"])
        self.assertEqual([makers.made("a", "ab"), makers.made("b", "ab")], [2, "ab"])
        self.assertEqual(refusal(self, NoName, makers.sample, "c").who, "c")

    def test_emptied_behind_the_call(self):
        table = {"a": (measured, "y")}
        makers = Makers(table)
        table.clear()
        self.assertEqual([makers.names(), makers.sample("a"), makers.made("a", "abc")], [["a"], "y", 3])

    def test_changed_by_a_maker(self):
        table = {}

        def emptying(word):
            table.clear()
            return word

        table.update({"a": (emptying, "x"), "b": (same, "y")})
        self.assertEqual(Makers(table).names(), ["a", "b"])

    def test_two_of_one_table(self):
        table = {"a": (measured, "y")}
        first = Makers(table)
        table["a"] = (same, "z")
        second = Makers(table)
        first.names().clear()
        self.assertEqual([first.sample("a"), second.sample("a")], ["y", "z"])
        self.assertEqual([first.made("a", "ab"), second.made("a", "ab")], [2, "ab"])
        self.assertEqual([first.names(), second.names()], [["a"], ["a"]])
        third = Makers(own_makers())
        self.assertEqual(refusal(self, NoName, first.made, "whole", "1").who, "whole")
        self.assertEqual(third.made("whole", "1"), 1)


class Errors(unittest.TestCase):
    def test_no_name_and_no_maker_are_bench_errors(self):
        self.assertIsInstance(refusal(self, NoName, Makers({}).sample, "a"), BenchError)
        self.assertIsInstance(refusal(self, NoMaker, Makers, {"": (same, "x")}), BenchError)


if __name__ == "__main__":
    unittest.main()
