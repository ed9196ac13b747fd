"""How a word is taken, each way, and the fault of a word that isn't."""

import itertools
import unittest

from benches import BenchCase, a_bench, asked_bench, begun
from wordbench.commands import Command
from wordbench.errors import Again, BadValue, Lacks, NoName, NoValue, Spare, Together, Unclear, Unknown, Unwanted
from wordbench.options import Option, Place
from wordbench.readings import Reading


class AwaitedValue(BenchCase):
    def setUp(self):
        self.bench = a_bench([Option("word", "w", "each"), Option("num", "n", "one", "whole")], [Place("p", "any")])

    def test_a_plain_word_is_the_value(self):
        for first, value in itertools.product(("--word", "--w", "-w"), ("x", "", "-", "a b", "=", "a-", "'", "5")):
            with self.subTest(first=first, value=value):
                reading = begun(self.bench, first)
                self.assertEqual(reading.awaited(), "word")
                self.assertIsNone(reading.take(value))
                self.assertIsNone(reading.awaited())
                self.assertEqual(reading.words(), [first, value])
                self.assertEqual([reading.said("word"), reading.said("p")], [1, 0])
                self.assertEqual(reading.parts()[-1], (1, 0, len(value), 0, "value", "word"))

    def test_any_other_word_is_refused(self):
        for first, word in itertools.product(("--word", "-w"), ("--", "--word", "--word=x", "-w", "-wx", "--zz", "-1", "---")):
            with self.subTest(first=first, word=word):
                self.refused(begun(self.bench, first), word, NoValue, who="word")

    def test_at_is_the_refused_words_number(self):
        self.refused(begun(self.bench, "a", "-w", "x", "--num"), "-5", NoValue, at=4, who="num")

    def test_a_value_its_maker_makes_nothing_of(self):
        reading = begun(self.bench, "--num")
        with self.assertRaises(BadValue) as caught:
            reading.take("x")
        self.assertEqual((caught.exception.at, caught.exception.who, caught.exception.word), (1, "num", "x"))
        self.assertEqual(reading.awaited(), "num")
        reading.take("5")
        self.assertIsNone(reading.awaited())

    def test_awaited_beneath_the_root(self):
        bench = a_bench(commands=[Command("c", [Option("opt", "o", "one")])])
        reading = begun(bench, "c", "-o")
        self.assertEqual(reading.awaited(), "opt")
        self.refused(reading, "--", NoValue, at=2, who="opt")
        reading.take("c")
        self.assertEqual(reading.path(), ["root", "c"])


class BehindTheDivider(BenchCase):
    def setUp(self):
        self.bench = a_bench([Option("flag", "f")], [Place("p"), Place("q", "any")])

    def test_all_words_go_to_places(self):
        reading = begun(self.bench, "--")
        for word in ("--flag", "-f", "--", "-", "", "x", "--", "--zz=1"):
            self.assertIsNone(reading.take(word))
        self.assertEqual([reading.said("p"), reading.said("q"), reading.said("flag")], [1, 7, 0])
        self.assertEqual([part[4:] for part in reading.parts()][:3], [("divider", ""), ("place", "p"), ("place", "q")])

    def test_spare(self):
        bench = a_bench([Option("flag", "f")], [Place("p")])
        for word in ("x", "--", "-f", "--flag", ""):
            with self.subTest(word):
                self.refused(begun(bench, "--", "-x"), word, Spare, who=word)
        self.refused(begun(a_bench(), "--"), "--", Spare, who="--")

    def test_bad_value(self):
        bench = asked_bench(places=[Place("p", "some", "m")])[0]
        self.refused(begun(bench, "--", "--x"), "bad", BadValue, who="p", word="bad", why="of bad")


class TheDivider(BenchCase):
    def test_it_is_taken(self):
        for places in ([], [Place("p")], [Place("p", "any")]):
            reading = begun(a_bench([Option("flag", "f")], places), "--")
            self.assertEqual(reading.words(), ["--"])
            self.assertEqual(reading.parts(), [(0, 0, 2, 0, "divider", "")])

    def test_behind_words_of_places_and_options(self):
        reading = begun(a_bench([Option("flag", "f")], [Place("p", "any")]), "a", "-f", "b", "--", "-f")
        self.assertEqual(reading.said("p"), 3)

    def test_unknown_where_there_are_commands_beneath(self):
        bench = a_bench([Option("need", "n", "one", needed=True)], commands=[Command("c")])
        self.refused(begun(bench, "-nx"), "--", Unknown, who="--")

    def test_unknown_ahead_of_lacks(self):
        bench = a_bench([Option("need", "n", "one", needed=True)], commands=[Command("c")])
        self.refused(begun(bench), "--", Unknown, who="--")

    def test_lacks_the_first_needed_option_that_is_not_said(self):
        needed = [Option(name, name[0], takes, needed=True) for name, takes in (("one", "one"), ("last", "last"), ("each", "each"))]
        bench = a_bench([Option("may", "m", "one")] + needed, [Place("p")])
        self.refused(begun(bench), "--", Lacks, who="one")
        self.refused(begun(bench, "-lx"), "--", Lacks, who="one")
        self.refused(begun(bench, "-ox"), "--", Lacks, who="last")
        self.refused(begun(bench, "-ox", "-ly", "p"), "--", Lacks, who="each")
        self.assertIsNone(begun(bench, "-ez", "-ox", "-ly").take("--"))

    def test_at_a_command_beneath(self):
        bench = a_bench(commands=[Command("c", [], [Place("p", "any")])])
        self.assertEqual(begun(bench, "c", "--", "c").parts()[1:], [(1, 0, 2, 1, "divider", ""), (2, 0, 1, 1, "place", "p")])


class LongWords(BenchCase):
    def setUp(self):
        self.bench = a_bench([
            Option("level", "l", "last"), Option("list", "", "each"), Option("lists", "", "one"),
            Option("force", "f", off=True), Option("fold", "", "count", off=True), Option("no", "n"), Option("x1"),
            Option("nob"),
        ])

    def says(self, word, what, who, end=None):
        reading = begun(self.bench, word)
        self.assertEqual(reading.parts()[0], (0, 0, len(word) if end is None else end, 0, what, who))
        self.assertEqual(reading.said(who), 1)
        return reading

    def test_the_name_in_full(self):
        self.says("--force", "option", "force")
        self.says("--x1", "option", "x1")
        self.says("--no-force", "off", "force")
        self.says("--no-fold", "off", "fold")

    def test_a_beginning(self):
        self.says("--le", "option", "level")
        self.says("--x", "option", "x1")
        self.says("--for", "option", "force")
        self.says("--no-for", "off", "force")
        self.says("--no-fol", "off", "fold")

    def test_a_name_that_is_a_beginning_of_another(self):
        self.says("--list", "option", "list")
        self.says("--no", "option", "no")
        self.says("--nob", "option", "nob")
        self.says("--lists", "option", "lists")

    def test_a_name_without_signs(self):
        for word in ("--=", "--=x", "--=="):
            self.refused(begun(self.bench), word, Unknown, who="")

    def test_unknown(self):
        for word, who in (
            ("--z", "z"), ("--levels", "levels"), ("--Level", "Level"), ("--z=force", "z"), ("--no-level", "no-level"),
            ("--no-x1", "no-x1"), ("---", "-"), ("---force", "-force"), ("--force ", "force "), ("-- ", " "), ("--l1=2", "l1"),
        ):
            with self.subTest(word):
                self.refused(begun(self.bench), word, Unknown, who=who)

    def test_unclear_with_some_sorted(self):
        for word, who, some in (
            ("--l", "l", ["level", "list", "lists"]), ("--li", "li", ["list", "lists"]), ("--lis=4", "lis", ["list", "lists"]),
            ("--f", "f", ["fold", "force"]), ("--no-f", "no-f", ["no-fold", "no-force"]),
            ("--n", "n", ["no", "no-fold", "no-force", "nob"]), ("--no-", "no-", ["no-fold", "no-force"]),
        ):
            with self.subTest(word):
                self.refused(begun(self.bench), word, Unclear, who=who, some=some)

    def test_unclear_of_one_option_on_and_off(self):
        bench = a_bench([Option("not", off=True)])
        self.refused(begun(bench), "--no", Unclear, who="no", some=["no-not", "not"])
        self.refused(begun(bench), "--n", Unclear, who="n", some=["no-not", "not"])

    def test_the_list_of_an_unclear_one_is_the_catchers_own(self):
        reading = begun(self.bench)
        with self.assertRaises(Unclear) as caught:
            reading.take("--li")
        caught.exception.some.clear()
        self.refused(reading, "--li", Unclear, who="li", some=["list", "lists"])

    def test_with_a_value(self):
        for word, end, value in (
            ("--level=3", 8, "3"), ("--le=abc", 5, "abc"), ("--level=", 8, ""), ("--level=a=b", 8, "a=b"),
            ("--level==", 8, "="), ("--level=--x", 8, "--x"), ("--level=-", 8, "-"), ("--level= ", 8, " "),
        ):
            with self.subTest(word):
                reading = self.says(word, "option", "level", end)
                self.assertEqual(reading.parts()[1:], [(0, end, len(word), 0, "value", "level")])
                self.assertEqual(word[end:], value)
                self.assertIsNone(reading.awaited())

    def test_without_a_value_it_is_awaited(self):
        for word, who in (("--level", "level"), ("--lists", "lists"), ("--le", "level")):
            reading = self.says(word, "option", who)
            self.assertEqual(reading.awaited(), who)
            self.assertEqual(len(reading.parts()), 1)

    def test_unwanted(self):
        for word, who in (
            ("--force=1", "force"), ("--force=", "force"), ("--fold=2", "fold"), ("--no-force=yes", "force"), ("--no-fold=", "fold"),
            ("--for=1", "force"), ("--no-for=1", "force"), ("--no=", "no"),
        ):
            with self.subTest(word):
                self.refused(begun(self.bench), word, Unwanted, who=who)

    def test_options_of_other_commands_mean_nothing_here(self):
        bench = a_bench([Option("above")], commands=[Command("c", [Option("beneath")])])
        self.refused(begun(bench), "--beneath", Unknown, who="beneath")
        self.refused(begun(bench, "c"), "--above", Unknown, who="above")
        self.assertEqual(begun(bench, "c", "--b").said("beneath"), 1)


class ShortsWords(BenchCase):
    def setUp(self):
        self.bench = a_bench([
            Option("all", "a"), Option("big", "B", "count", off=True), Option("bee", "b", "count"), Option("val", "v", "each"),
            Option("one", "o", "one", "whole"), Option("bare"),
        ], [Place("p", "any")])

    def test_one_letter(self):
        reading = begun(self.bench, "-a")
        self.assertEqual(reading.parts(), [(0, 0, 2, 0, "option", "all")])
        self.assertEqual(reading.said("all"), 1)

    def test_several(self):
        reading = begun(self.bench, "-abB")
        self.assertEqual([part[5] for part in reading.parts()], ["all", "bee", "big"])
        self.assertEqual([reading.said(name) for name in ("all", "bee", "big")], [1, 1, 1])

    def test_great_and_small_letters(self):
        reading = begun(self.bench, "-bBBb", "-b")
        self.assertEqual([reading.said("bee"), reading.said("big")], [3, 2])
        self.refused(reading, "-A", Unknown, who="A")

    def test_a_valued_one_with_the_value_behind_it(self):
        for word, begin in (("-vx", 2), ("-v=x", 2), ("-vab", 2), ("-av-", 3), ("-abv--all", 4), ("-va b", 2), ("-vv", 2)):
            with self.subTest(word):
                reading = begun(self.bench, word)
                self.assertEqual(reading.parts()[-1], (0, begin, len(word), 0, "value", "val"))
                self.assertIsNone(reading.awaited())
                self.assertEqual(reading.said("val"), 1)

    def test_a_valued_one_at_the_end_awaits_it(self):
        for word in ("-v", "-av", "-bbav"):
            reading = begun(self.bench, word)
            self.assertEqual(reading.awaited(), "val")
            reading.take("a")
            self.assertEqual([reading.said("val"), reading.said("p")], [1, 0])

    def test_a_letter_that_is_not_there(self):
        for word, who in (("-z", "z"), ("-abz", "z"), ("-azb", "z"), ("-a-", "-"), ("-a=", "="), ("-a b", " "), ("-1", "1"), ("-ab=3", "=")):
            with self.subTest(word):
                self.refused(begun(self.bench), word, Unknown, who=who)

    def test_a_letter_twice(self):
        self.refused(begun(self.bench), "-aa", Again, who="all")
        self.refused(begun(self.bench), "-abba", Again, who="all")
        self.assertEqual(begun(self.bench, "-bb").said("bee"), 2)

    def test_letter_by_letter(self):
        self.refused(begun(self.bench, "-a"), "-az", Again, who="all")
        self.refused(begun(self.bench, "-a"), "-za", Unknown, who="z")
        self.refused(begun(self.bench), "-aox", BadValue, who="one", word="x", why="no whole number")

    def test_letters_behind_the_first_that_are_the_values_are_not_looked_at(self):
        self.assertEqual(begun(self.bench, "-vzzz").said("val"), 1)

    def test_an_option_without_a_short_has_none(self):
        bench = a_bench([Option("bare")])
        self.refused(begun(bench), "-b", Unknown, who="b")

    def test_shorts_of_other_commands_mean_nothing_here(self):
        bench = a_bench([Option("above", "a")], commands=[Command("c", [Option("beneath", "b")])])
        self.refused(begun(bench), "-b", Unknown, who="b")
        self.refused(begun(bench, "c"), "-a", Unknown, who="a")


class Commands(BenchCase):
    def setUp(self):
        self.bench = a_bench(
            [Option("flag", "f"), Option("need", "n", "one", needed=True), Option("more", "m", "each", needed=True)],
            commands=[Command("list"), Command("lists"), Command("level", commands=[Command("list")]), Command("0x")],
        )
        self.said = ["-nx", "-my"]

    def test_in_full(self):
        for name in ("list", "lists", "level", "0x"):
            reading = begun(self.bench, *self.said, name)
            self.assertEqual(reading.path(), ["root", name])
            self.assertEqual(reading.parts()[-1], (2, 0, len(name), 1, "command", name))

    def test_a_beginning(self):
        for word, name in (("le", "level"), ("0", "0x"), ("leve", "level")):
            reading = begun(self.bench, *self.said, word)
            self.assertEqual(reading.path(), ["root", name])
            self.assertEqual(reading.parts()[-1], (2, 0, len(word), 1, "command", name))

    def test_further_down(self):
        reading = begun(self.bench, *self.said, "le", "l")
        self.assertEqual(reading.path(), ["root", "level", "list"])

    def test_unknown(self):
        for word in ("", "-", "z", "listing", "List", "LIST", "ist", " list", "no-list", "root", "="):
            with self.subTest(word):
                self.refused(begun(self.bench, *self.said), word, Unknown, who=word)

    def test_unclear(self):
        self.refused(begun(self.bench, *self.said), "l", Unclear, who="l", some=["level", "list", "lists"])
        self.refused(begun(self.bench, *self.said), "li", Unclear, who="li", some=["list", "lists"])

    def test_lacks_the_first_needed_option_ahead_of_going_down(self):
        self.refused(begun(self.bench), "list", Lacks, who="need")
        self.refused(begun(self.bench, "-my"), "le", Lacks, who="need")
        self.refused(begun(self.bench, "-nx"), "list", Lacks, who="more")

    def test_unknown_and_unclear_ahead_of_lacks(self):
        self.refused(begun(self.bench), "z", Unknown, who="z")
        self.refused(begun(self.bench), "l", Unclear, who="l", some=["level", "list", "lists"])

    def test_behind_a_command_without_any_beneath_its_name_is_spare(self):
        self.refused(begun(self.bench, *self.said, "list"), "list", Spare, who="list")

    def test_lacks_beneath(self):
        bench = a_bench(commands=[Command("a", [Option("far", "", "one", needed=True)], commands=[Command("b")])])
        self.refused(begun(bench, "a"), "b", Lacks, at=1, who="far")


class Places(BenchCase):
    MAY_BE = [
        ["one"], ["maybe"], ["some"], ["any"], ["one", "one"], ["one", "maybe"], ["one", "some"], ["one", "any"],
        ["maybe", "maybe"], ["maybe", "any"], ["one", "maybe", "maybe", "any"], ["one", "one", "maybe"], ["one", "one", "some"],
    ]

    def expected(self, manies, many_words):
        """How many words each place has, by hand: one each, all the others to the last where it is never full."""
        counts = [1 if number < many_words else 0 for number in range(len(manies))]
        if manies[-1] in ("some", "any") and many_words > len(manies):
            counts[-1] += many_words - len(manies)
        return counts

    def test_each_order_that_may_be(self):
        for manies in self.MAY_BE:
            bench = a_bench([], [Place(f"p{number}", many) for number, many in enumerate(manies)])
            most = len(manies) + 3 if manies[-1] in ("some", "any") else len(manies)
            for many_words in range(most + 1):
                with self.subTest(manies=manies, many_words=many_words):
                    reading = begun(bench, *["w"] * many_words)
                    counts = [reading.said(f"p{number}") for number in range(len(manies))]
                    self.assertEqual(counts, self.expected(manies, many_words))
            if most == len(manies):
                self.refused(reading, "more", Spare, who="more")

    def test_no_places(self):
        for word in ("x", "", "-"):
            self.refused(begun(a_bench()), word, Spare, who=word)

    def test_plain_words_of_every_kind(self):
        reading = begun(a_bench([], [Place("p", "any")]), "", "-", "a", "=", "a b", "a--", "''")
        self.assertEqual(reading.said("p"), 7)

    def test_bad_value(self):
        bench = asked_bench([], [Place("p", "one", "m"), Place("q", "any", "m")])[0]
        self.refused(begun(bench), "bad1", BadValue, who="p", word="bad1", why="of bad1")
        self.refused(begun(bench, "x"), "bad", BadValue, who="q", word="bad", why="of bad")
        self.refused(begun(bench, "x", "y"), "bad", BadValue, at=2, who="q", word="bad", why="of bad")

    def test_options_among_them(self):
        bench = a_bench([Option("f", "f"), Option("v", "v", "one")], [Place("p", "any")])
        reading = begun(bench, "a", "-f", "b", "--v", "c", "d")
        self.assertEqual([reading.said("p"), reading.said("f"), reading.said("v")], [3, 1, 1])


class SaidAgainAndTogether(BenchCase):
    def test_again_of_a_flag_and_of_one(self):
        bench = a_bench([Option("flag", "f", off=True), Option("one", "o", "one", "whole")])
        for first, second in itertools.product(("--flag", "-f", "--no-flag"), repeat=2):
            with self.subTest(first=first, second=second):
                self.refused(begun(bench, first), second, Again, who="flag")
        for first, second in itertools.product((["--one=1"], ["-o1"], ["-o", "1"]), ("--one=2", "-o2", "-o", "--one", "--on=bad")):
            with self.subTest(first=first, second=second):
                self.refused(begun(bench, *first), second, Again, who="one")

    def test_not_of_count_last_and_each(self):
        bench = a_bench([Option("count", "c", "count", off=True), Option("last", "l", "last"), Option("each", "e", "each")])
        reading = begun(bench, "-cc", "--no-count", "--count", "--no-c", "-lx", "--last=y", "-l", "z", "-ex", "--each=", "-e", "z")
        self.assertEqual([reading.said("count"), reading.said("last"), reading.said("each")], [5, 3, 3])

    def grouped(self):
        return asked_bench(
            [
                Option("red", "r", off=True), Option("green", "g", "count", off=True), Option("blue", "b", "each", "m"),
                Option("near", "n"), Option("far", "f"), Option("free", "e"),
            ], groups=[["green", "blue", "red"], ["near", "far"]],
        )[0]

    def test_together_on_or_off(self):
        bench = self.grouped()
        says = {"red": ["--red", "-r", "--no-red"], "green": ["-g", "--no-green", "-gg"], "blue": ["-bx", "--blue=y"]}
        for other, who in itertools.permutations(says, 2):
            for first, second in itertools.product(says[other], says[who]):
                with self.subTest(first=first, second=second):
                    self.refused(begun(bench, first), second, Together, who=who, other=other)
        self.refused(begun(bench, "-f"), "--near", Together, who="near", other="far")

    def test_together_within_one_shorts_word(self):
        bench = self.grouped()
        self.refused(begun(bench), "-rg", Together, who="green", other="red")
        self.refused(begun(bench), "-ggbx", Together, who="blue", other="green")
        self.refused(begun(bench), "-enf", Together, who="far", other="near")

    def test_not_of_the_same_of_other_groups_or_of_none(self):
        bench = self.grouped()
        reading = begun(bench, "-gg", "--no-green", "-g", "-f", "-e")
        self.assertEqual([reading.said("green"), reading.said("far"), reading.said("free")], [4, 1, 1])
        self.assertEqual(begun(bench, "-bx", "-by", "-b", "z").said("blue"), 3)

    def test_while_a_value_is_awaited_the_option_was_said(self):
        reading = begun(self.grouped(), "-b")
        self.assertEqual(reading.said("blue"), 1)

    def test_what_was_said_above_does_not_count_beneath(self):
        options = [Option("a", "a"), Option("b", "b"), Option("v", "v", "one")]
        groups = [["a", "b"]]
        deep = Command("deep", options, [Place("p")], groups)
        bench = a_bench(options, groups=groups, commands=[Command("mid", options, [], groups, [deep])])
        reading = begun(bench, "-a", "-vx", "mid", "-b", "-vy", "deep", "-a", "-vz")
        self.assertEqual([reading.said("a"), reading.said("b"), reading.said("v")], [1, 0, 1])
        self.refused(reading, "-b", Together, who="b", other="a")
        self.refused(reading, "-v", Again, who="v")

    def test_a_needed_option_said_above_is_still_needed_beneath(self):
        options = [Option("need", "n", "one", needed=True)]
        bench = a_bench(options, commands=[Command("c", options, [Place("p")])])
        self.refused(begun(bench, "-nx", "c"), "--", Lacks, who="need")


class TheOrderOfFaults(BenchCase):
    def setUp(self):
        self.bench, self.maker = asked_bench(
            [
                Option("flag", "f", off=True), Option("fan", "n"), Option("one", "o", "one", "m"), Option("two", "t", "one", "m"),
                Option("cnt", "c", "count", off=True),
            ], groups=[["one", "two"], ["flag", "fan", "cnt"]],
        )

    def test_unknown_and_unclear_first(self):
        reading = begun(self.bench, "-f", "-ox")
        self.refused(reading, "--fx=1", Unknown, who="fx")
        self.refused(reading, "--f=1", Unclear, who="f", some=["fan", "flag"])
        self.refused(reading, "--no-=1", Unclear, who="no-", some=["no-cnt", "no-flag"])

    def test_again_ahead_of_unwanted_and_of_the_maker(self):
        self.refused(begun(self.bench, "-f"), "--flag=1", Again, who="flag")
        self.refused(begun(self.bench, "-f"), "--no-flag=1", Again, who="flag")
        self.refused(begun(self.bench, "-ox"), "--one=bad", Again, who="one")
        self.refused(begun(self.bench, "-ox"), "-obad", Again, who="one")

    def test_together_ahead_of_unwanted_and_of_the_maker(self):
        self.refused(begun(self.bench, "-f"), "--fan=1", Together, who="fan", other="flag")
        self.refused(begun(self.bench, "-f"), "--no-cnt=1", Together, who="cnt", other="flag")
        self.refused(begun(self.bench, "-ox"), "--two=bad", Together, who="two", other="one")

    def test_the_maker_last(self):
        begun(self.bench, "-f", "-ox")
        self.assertEqual(self.maker.words, ["x"])
        self.refused(begun(self.bench, "-f"), "--one=bad", BadValue, who="one", word="bad", why="of bad")
        self.refused(begun(self.bench, "-f"), "-obad", BadValue, who="one", word="bad", why="of bad")
        self.refused(begun(self.bench, "-f", "-o"), "bad", BadValue, at=2, who="one", word="bad", why="of bad")
        self.refused(begun(self.bench), "--one=bad=bad", BadValue, who="one", word="bad=bad", why="of bad=bad")

    def test_spare_ahead_of_any_maker(self):
        reading = begun(self.bench)
        self.refused(reading, "bad", Spare, who="bad")
        self.assertEqual(self.maker.words, [])


class Names(BenchCase):
    def test_no_name(self):
        bench = a_bench([Option("above", "a")], commands=[Command("c", [Option("opt", "o")], [Place("p")])])
        reading = Reading(bench)
        for name in ("opt", "p", "c", "root", "a", "", "abov", "--above", "no-above"):
            with self.subTest(name):
                with self.assertRaises(NoName) as caught:
                    reading.said(name)
                self.assertEqual(caught.exception.who, name)
        reading.take("c")
        for name in ("above", "c", "root", "o", ""):
            with self.subTest(name):
                with self.assertRaises(NoName) as caught:
                    reading.said(name)
                self.assertEqual(caught.exception.who, name)
        self.assertEqual([reading.said("opt"), reading.said("p")], [0, 0])


if __name__ == "__main__":
    unittest.main()
