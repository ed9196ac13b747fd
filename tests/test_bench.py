import unittest

from benches import Asked
from handed import refusal
from wordbench.bench import Bench
from wordbench.clashes import first_clash
from wordbench.commands import Command
from wordbench.errors import BadDefault, BenchError, Clash, NoMaker, Unmade
from wordbench.makers import Makers, own_makers
from wordbench.options import Option, Place

OWN = Makers(own_makers())


def needs(maker, name="x"):
    return Option(name, "", "one", maker)


class AsTold(unittest.TestCase):
    def test_the_very_ones_that_were_handed_in(self):
        root = Command("root", [Option("a")], commands=[Command("b")])
        bench = Bench(root, OWN)
        for _ in range(2):
            self.assertIs(bench.root(), root)
            self.assertIs(bench.makers(), OWN)

    def test_by_name(self):
        root = Command("root")
        bench = Bench(makers=OWN, root=root)
        self.assertIs(bench.root(), root)
        self.assertIs(bench.makers(), OWN)

    def test_two_benches_of_one_root(self):
        root, other = Command("root"), Makers({})
        first, second = Bench(root, OWN), Bench(root, other)
        self.assertIs(first.makers(), OWN)
        self.assertIs(second.makers(), other)
        self.assertIs(second.root(), root)

    def test_its_methods_are_its_own(self):
        for name in ("root", "makers"):
            self.assertIn(name, vars(Bench))

    def test_a_command_at_two_places_of_one_tree(self):
        leaf = Command("leaf", [Option("n", "", "one", "whole", default="1")], [Place("p", "maybe", "pair", default=":")])
        root = Command("root", commands=[Command("a", commands=[leaf]), Command("b", commands=[leaf])])
        self.assertIs(Bench(root, OWN).root(), root)


class Clashes(unittest.TestCase):
    def clashes(self, root, makers=OWN):
        where, kind, who = first_clash(root)
        caught = refusal(self, Clash, Bench, root, makers)
        self.assertEqual((caught.where, caught.kind, caught.who), (where, kind, who))
        self.assertIsInstance(caught, BenchError)
        return where, kind, who

    def test_each_kind(self):
        deep = Command("e")
        for name in "dcba":
            deep = Command(name, commands=[deep])
        some = Command("c")
        self.assertEqual(self.clashes(deep), (["a", "b", "c", "d", "e"], "deep", "e"))
        self.assertEqual(self.clashes(Command("r", [Option("a"), Option("a")])), (["r"], "long", "a"))
        self.assertEqual(self.clashes(Command("r", [Option("a", "x"), Option("b", "x")])), (["r"], "short", "x"))
        self.assertEqual(self.clashes(Command("r", [Option("a")], [Place("a")])), (["r"], "name", "a"))
        self.assertEqual(self.clashes(Command("r", [], [Place("a", "any"), Place("b")])), (["r"], "order", "b"))
        self.assertEqual(self.clashes(Command("r", [], [Place("a")], [], [some])), (["r"], "both", "r"))
        self.assertEqual(self.clashes(Command("r", [Option("a")], [], [["a", "b"]])), (["r"], "group", "b"))
        self.assertEqual(self.clashes(Command("r", [], [], [], [some, some])), (["r"], "command", "c"))

    def test_one_beneath(self):
        bad = Command("bad", [Option("a"), Option("a")])
        root = Command("root", commands=[Command("x"), Command("y", commands=[bad]), bad])
        self.assertEqual(self.clashes(root), (["root", "y", "bad"], "long", "a"))

    def test_a_clash_ahead_of_a_missing_maker_and_a_bad_default(self):
        bad = Command("bad", [Option("a"), Option("a")])
        first = [needs("missing"), Option("n", "", "one", "whole", default="x")]
        self.assertEqual(self.clashes(Command("root", first, commands=[bad])), (["root", "bad"], "long", "a"))

    def test_the_told_path_is_the_catchers_own(self):
        root = Command("root", [Option("a"), Option("a")])
        refusal(self, Clash, Bench, root, OWN).where.append("more")
        self.assertEqual(self.clashes(root), (["root"], "long", "a"))


class MissingMakers(unittest.TestCase):
    def misses(self, root, who, makers=OWN):
        caught = refusal(self, NoMaker, Bench, root, makers)
        self.assertEqual(caught.who, who)

    def test_of_valued_options(self):
        for takes in ("one", "last", "each"):
            with self.subTest(takes):
                self.misses(Command("r", [Option("a", "", takes, "gone")]), "gone")
                self.misses(Command("r", [Option("a", "", takes)]), "word", Makers({}))

    def test_of_places(self):
        for many in ("one", "maybe", "some", "any"):
            with self.subTest(many):
                self.misses(Command("r", [], [Place("a", many, "gone")]), "gone")

    def test_not_of_flags_and_counts(self):
        root = Command("r", [Option("a", "", "flag", "gone"), Option("b", "", "count", "gone")])
        self.assertIs(Bench(root, Makers({})).root(), root)

    def test_names_are_full_names(self):
        self.misses(Command("r", [needs("who")]), "who")
        self.misses(Command("r", [needs("words")]), "words")

    def test_the_first_in_the_order(self):
        last = Command("d", [needs("m6")])
        one = Command("b", [needs("m4")], commands=[Command("c", [], [Place("p", "one", "m5")])])
        self.misses(Command("a", [Option("f", "", "flag", "m0"), needs("m1"), needs("m2", "y")], commands=[one, last]), "m1")
        self.misses(Command("a", [needs("word"), needs("m2", "y")], [Place("p", "one", "m3")]), "m2")
        self.misses(Command("a", [needs("word")], [Place("p"), Place("q", "one", "m3"), Place("s", "one", "m4")]), "m3")
        self.misses(Command("a", [needs("word")], commands=[one, last]), "m4")
        one = Command("b", commands=[Command("c", [], [Place("p", "one", "m5")])])
        self.misses(Command("a", commands=[one, last]), "m5")
        self.misses(Command("a", commands=[Command("b"), last]), "m6")

    def test_options_ahead_of_places_and_those_ahead_of_the_commands_beneath(self):
        self.misses(Command("a", [needs("m1")], [Place("p", "one", "m2")]), "m1")
        self.misses(Command("a", [needs("m1")], commands=[Command("b", [needs("m0")])]), "m1")

    def test_a_missing_maker_far_behind_goes_ahead_of_a_bad_default(self):
        bad = Option("n", "", "one", "whole", default="x")
        self.misses(Command("a", [bad], commands=[Command("b"), Command("c", [needs("gone")])]), "gone")
        self.misses(Command("a", [bad], [Place("p", "one", "gone")]), "gone")

    def test_no_maker_is_asked_where_one_is_missing(self):
        asked = Asked()
        makers = Makers({"m": (asked, "s")})
        asked.words.clear()
        self.misses(Command("a", [Option("n", "", "one", "m", default="d"), needs("gone")]), "m")
        self.misses(Command("a", [Option("n", "", "one", "m", default="d"), needs("gone")]), "gone", makers)
        self.assertEqual(asked.words, [])


class BadDefaults(unittest.TestCase):
    def setUp(self):
        self.maker = Asked()
        self.makers = Makers({"m": (self.maker, "s"), **own_makers()})
        self.maker.words.clear()

    def bad(self, root, where, who, why):
        caught = refusal(self, BadDefault, Bench, root, self.makers)
        self.assertEqual((caught.where, caught.who, caught.why), (where, who, why))

    def test_of_options_and_of_a_place(self):
        for takes in ("one", "last"):
            self.bad(Command("r", [Option("a", "", takes, "m", default="bad")]), ["r"], "a", "of bad")
        self.bad(Command("r", [], [Place("p", "maybe", "m", default="bad2")]), ["r"], "p", "of bad2")

    def test_why_without_a_text(self):
        def never(word):
            if word != "s":
                raise Unmade()

        root = Command("r", [Option("a", "", "one", "n", default="x")])
        self.assertEqual(refusal(self, BadDefault, Bench, root, Makers({"n": (never, "s")})).why, "")

    def test_the_default_without_signs_is_one(self):
        root = Command("r", [Option("a", "", "one", "whole", default="")])
        self.assertEqual(refusal(self, BadDefault, Bench, root, self.makers).who, "a")

    def test_defaults_that_are_no_plain_words_are_let_by(self):
        root = Command("r", [Option("a", "", "one", "m", default="--x"), Option("b", "", "last", "whole", default="-5")])
        self.assertIs(Bench(root, self.makers).root(), root)

    def test_the_first_in_the_order(self):
        def option(name, word):
            return Option(name, "", "one", "m", default=word)

        def place(name, word):
            return Place(name, "maybe", "m", default=word)

        inner = Command("c", [option("x", "bad4")], [place("p", "bad5")])
        outer = Command("b", [option("x", "bad3")], commands=[inner])
        last = Command("d", [option("x", "bad6")])
        self.bad(Command("a", [option("g", "g"), option("x", "bad1"), option("y", "bad2")], commands=[outer]), ["a"], "x", "of bad1")
        self.bad(Command("a", [option("x", "bad1")], [place("p", "bad2")]), ["a"], "x", "of bad1")
        self.bad(Command("a", [option("x", "g")], [place("p", "bad2"), place("q", "bad3")]), ["a"], "p", "of bad2")
        self.bad(Command("a", [option("y", "bad0")], commands=[outer, last]), ["a"], "y", "of bad0")
        self.bad(Command("a", commands=[outer, last]), ["a", "b"], "x", "of bad3")
        self.bad(Command("a", commands=[Command("b", commands=[inner]), last]), ["a", "b", "c"], "x", "of bad4")
        self.bad(Command("a", commands=[Command("b"), last]), ["a", "d"], "x", "of bad6")
        inner = Command("c", [], [place("p", "bad5")])
        self.bad(Command("a", commands=[Command("b", commands=[inner]), last]), ["a", "b", "c"], "p", "of bad5")

    def test_a_command_that_stands_at_two_places_is_told_at_the_first(self):
        leaf = Command("leaf", [Option("x", "", "one", "m", default="bad")])
        root = Command("r", commands=[Command("a", commands=[leaf]), leaf])
        self.bad(root, ["r", "a", "leaf"], "x", "of bad")
        root = Command("r", commands=[leaf, Command("a", commands=[leaf])])
        self.bad(root, ["r", "leaf"], "x", "of bad")

    def test_the_told_path_is_the_catchers_own(self):
        root = Command("r", [Option("x", "", "one", "m", default="bad")])
        refusal(self, BadDefault, Bench, root, self.makers).where.clear()
        self.bad(root, ["r"], "x", "of bad")


if __name__ == "__main__":
    unittest.main()
