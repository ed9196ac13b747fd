"""What a reading tells, copies of it, words that are refused, and the end."""

import itertools
import unittest

from benches import LET_BY, BenchCase, a_bench, begun, ending, rows_let_by, sample_bench, state
from wordbench.answers import answer_of
from wordbench.commands import Command
from wordbench.errors import Again, Fault, Lacks, NoValue, Spare, Together, Unclear, Unknown, Unnamed
from wordbench.options import Option, Place
from wordbench.readings import Reading


class AtFirst(BenchCase):
    def test_without_words_at_the_root(self):
        reading = Reading(sample_bench())
        self.assertEqual(reading.words(), [])
        self.assertEqual(reading.path(), ["root"])
        self.assertIsNone(reading.awaited())
        self.assertEqual(reading.parts(), [])
        self.assertEqual([reading.said("verbose"), reading.said("at")], [0, 0])

    def test_its_methods_are_its_own(self):
        for name in ("take", "words", "path", "awaited", "said", "parts", "end", "copied"):
            self.assertIn(name, vars(Reading))

    def test_by_name(self):
        reading = Reading(bench=sample_bench())
        self.assertIsNone(reading.take(word="-v"))
        self.assertEqual(reading.said(name="verbose"), 1)
        self.assertEqual(reading.words(), ["-v"])

    def test_two_of_one_bench(self):
        bench = sample_bench()
        first, second = Reading(bench), Reading(bench)
        first.take("-vv")
        second.take("more")
        first.take("--at")
        self.assertEqual([first.words(), second.words()], [["-vv", "--at"], ["more"]])
        self.assertEqual([first.path(), second.path()], [["root"], ["root", "more"]])
        self.assertEqual([first.awaited(), second.awaited()], ["at", None])


class NewLists(BenchCase):
    def test_told_lists_changed_show_nowhere(self):
        reading = begun(sample_bench(), "-va5", "copy", "-t", "x", "--as=a:b", "y", "--", "-z")
        before = state(reading)
        for told in (reading.words, reading.path, reading.parts):
            first = told()
            self.assertIs(first.__class__, list)
            first.append("more")
            first.reverse()
            told().clear()
        self.assertEqual(state(reading), before)
        reading.take("w")
        self.assertEqual(reading.words(), before[0] + ["w"])
        self.assertEqual(reading.path(), before[1])
        self.assertEqual(reading.parts(), before[3] + [(8, 0, 1, 1, "place", "from")])

    def test_told_ahead_of_going_on(self):
        reading = begun(sample_bench(), "-v")
        words, path, parts = reading.words(), reading.path(), reading.parts()
        reading.take("more")
        self.assertEqual([words, path, parts], [["-v"], ["root"], [(0, 0, 2, 0, "option", "verbose")]])


class RefusedWords(BenchCase):
    def setUp(self):
        self.bench = a_bench([
            Option("flag", "f"), Option("count", "c", "count", off=True), Option("each", "e", "each", "whole"),
            Option("red", "r"), Option("blue", "b", "last"),
        ], [Place("p", "maybe", "whole")], [["red", "blue"]])

    def test_behind_some_letters_of_a_shorts_word(self):
        self.refused(begun(self.bench, "-c"), "-fcz", Unknown, who="z")
        self.refused(begun(self.bench, "-c"), "-fcf", Again, who="flag")
        self.refused(begun(self.bench, "-c"), "-fcrb", Together, who="blue", other="red")

    def test_what_it_takes_afterwards(self):
        reading = begun(self.bench, "-c")
        self.refused(reading, "-fcz", Unknown, who="z")
        self.refused(reading, "-rcbx", Together, who="blue", other="red")
        with self.assertRaises(Fault):
            reading.take("-frccex")
        self.assertEqual(reading.awaited(), None)
        reading.take("-fcb")
        self.assertEqual(reading.awaited(), "blue")
        self.refused(reading, "-f", NoValue, who="blue")
        reading.take("x")
        reading.take("-ce5")
        self.assertEqual([reading.said(name) for name in ("flag", "count", "each", "red", "blue")], [1, 3, 1, 0, 1])
        self.assertEqual(reading.words(), ["-c", "-fcb", "x", "-ce5"])
        self.assertEqual(answer_of(reading).value("each"), [5])

    def test_every_refused_word_between_changes_nothing(self):
        bench = sample_bench()
        tried = ["", "-", "--", "x", "-z", "-vz", "-fz", "--zz", "--l=x", "--as=x", "--as", "-fFs", "--no-force=1", "more", "m", "a", "-lx"]
        for row in rows_let_by():
            alone, among = Reading(bench), Reading(bench)
            for word in row:
                for other in tried:
                    trial = among.copied()
                    try:
                        trial.take(other)
                    except Fault:
                        with self.assertRaises(Fault):
                            among.take(other)
                among.take(word)
                alone.take(word)
                self.assertEqual(state(among), state(alone))
            self.assertEqual(answer_of(among), answer_of(alone))


class Copies(BenchCase):
    def test_a_copy_tells_the_same(self):
        for row in rows_let_by():
            reading = Reading(sample_bench())
            for word in row:
                copy = reading.copied()
                self.assertIsInstance(copy, Reading)
                self.assertEqual(state(copy), state(reading))
                reading.take(word)

    def test_gone_on_with_by_turns(self):
        bench = sample_bench()
        for one, two in itertools.permutations(LET_BY, 2):
            one, two = one.split(), two.split()
            same = 0
            while same < min(len(one), len(two)) and one[same] == two[same]:
                same += 1
            first = begun(bench, *one[:same])
            second = first.copied()
            for number in range(same, max(len(one), len(two))):
                if number < len(two):
                    second.take(two[number])
                if number < len(one):
                    first.take(one[number])
            self.assertEqual(state(first), state(begun(bench, *one)))
            self.assertEqual(state(second), state(begun(bench, *two)))
            self.assertEqual(answer_of(first).written(), answer_of(begun(bench, *one)).written())
            self.assertEqual(answer_of(second).written(), answer_of(begun(bench, *two)).written())

    def test_copies_of_copies(self):
        bench = a_bench([Option("count", "c", "count")], [Place("p", "any")])
        readings = [Reading(bench)]
        for number in range(5):
            copy = readings[-1].copied()
            copy.take("-c")
            copy.take(f"w{number}")
            readings.append(copy)
        for number, reading in enumerate(readings):
            self.assertEqual(reading.said("count"), number)
            self.assertEqual(reading.words(), [word for each in range(number) for word in ("-c", f"w{each}")])
        readings[2].take("-cc")
        self.assertEqual([reading.said("count") for reading in readings], [0, 1, 4, 3, 4, 5])

    def test_while_a_value_is_awaited(self):
        bench = a_bench([Option("each", "e", "each"), Option("flag", "f")])
        first = begun(bench, "-ex", "-fe")
        second = first.copied()
        self.assertEqual(second.awaited(), "each")
        first.take("one")
        self.assertEqual([first.awaited(), second.awaited()], [None, "each"])
        third = second.copied()
        second.take("two")
        third.take("three")
        self.assertEqual(answer_of(first).value("each"), ["x", "one"])
        self.assertEqual(answer_of(second).value("each"), ["x", "two"])
        self.assertEqual(answer_of(third).value("each"), ["x", "three"])

    def test_behind_the_divider(self):
        bench = a_bench([Option("flag", "f")], [Place("p", "any")])
        first = begun(bench, "a")
        second = first.copied()
        second.take("--")
        third = second.copied()
        third.take("-f")
        first.take("-f")
        self.assertEqual([first.said("flag"), first.said("p")], [1, 1])
        self.assertEqual([second.said("flag"), second.said("p")], [0, 1])
        self.assertEqual([third.said("flag"), third.said("p")], [0, 2])

    def test_a_word_that_one_refuses_leaves_the_other(self):
        bench = sample_bench()
        first = begun(bench, "copy", "-F")
        second = first.copied()
        self.refused(first, "-qs", Together, who="slow", other="fast")
        second.take("-q")
        self.assertEqual([first.said("quiet"), second.said("quiet")], [0, 1])

    def test_gone_down_in_a_copy(self):
        bench = sample_bench()
        first = begun(bench, "-v")
        second = first.copied()
        second.take("more")
        second.take("--all")
        self.assertEqual([first.path(), second.path()], [["root"], ["root", "more"]])
        self.assertEqual(first.said("verbose"), 1)
        self.assertEqual(second.said("all"), 1)
        first.take("move")
        self.assertEqual(second.path(), ["root", "more"])


class TheEnd(BenchCase):
    def setUp(self):
        self.deep = Command("deep", [
            Option("may", "m", "one"), Option("one", "o", "one", needed=True), Option("two", "t", "each", needed=True),
        ], [Place("p"), Place("q"), Place("s", "some")])
        self.bench = a_bench([Option("top", "T", "last", needed=True), Option("val", "V", "one")], commands=[self.deep])

    def test_a_value_is_awaited(self):
        self.cant_end(begun(self.bench, "-Tx", "--val"), NoValue, who="val")
        self.cant_end(begun(self.bench, "-T"), NoValue, at=1, who="top")

    def test_a_value_is_awaited_ahead_of_all_others(self):
        self.cant_end(begun(self.bench, "-V"), NoValue, who="val")
        self.cant_end(begun(self.bench, "-Tx", "deep", "-m"), NoValue, at=3, who="may")

    def test_a_needed_option_is_not_said(self):
        bench = a_bench([Option("a", "a", "one", needed=True), Option("b", "b", "last", needed=True), Option("c", "c", "each", needed=True)])
        self.cant_end(begun(bench), Lacks, at=0, who="a")
        self.cant_end(begun(bench, "-bx"), Lacks, at=1, who="a")
        self.cant_end(begun(bench, "-ax"), Lacks, at=1, who="b")
        self.cant_end(begun(bench, "-b", "x", "-a", "y"), Lacks, at=4, who="c")
        self.assertIsNone(begun(bench, "-ax", "-bx", "-cx").end())

    def test_a_needed_option_ahead_of_commands_and_places(self):
        self.cant_end(begun(self.bench), Lacks, at=0, who="top")
        self.cant_end(begun(self.bench, "-Tx", "deep"), Lacks, at=2, who="one")
        self.cant_end(begun(self.bench, "-Tx", "deep", "-ox"), Lacks, at=3, who="two")

    def test_commands_beneath(self):
        self.cant_end(begun(self.bench, "-Tx"), Unnamed, who="root")
        bench = sample_bench()
        self.cant_end(begun(bench), Unnamed, at=0, who="root")
        self.cant_end(begun(bench, "-v", "mor"), Unnamed, at=2, who="more")

    def test_places_without_a_word(self):
        reading = begun(self.bench, "-Tx", "deep", "-ox", "-ty")
        for who in ("p", "q", "s"):
            self.cant_end(reading, Lacks, who=who)
            reading.take("word")
        self.assertIsNone(reading.end())
        self.assertIsNone(reading.end())

    def test_maybe_and_any_need_none(self):
        self.assertIsNone(begun(a_bench([], [Place("p", "maybe"), Place("q", "any")])).end())
        self.cant_end(begun(a_bench([], [Place("o"), Place("p", "maybe"), Place("q", "any")])), Lacks, at=0, who="o")
        self.assertIsNone(begun(a_bench()).end())
        self.assertIsNone(begun(a_bench(), "--").end())

    def test_behind_the_divider(self):
        bench = a_bench([], [Place("p"), Place("q", "some")])
        self.cant_end(begun(bench, "--"), Lacks, at=1, who="p")
        self.cant_end(begun(bench, "a", "--"), Lacks, at=2, who="q")
        self.assertIsNone(begun(bench, "a", "--", "--").end())

    def test_let_by(self):
        for row in rows_let_by():
            reading = begun(sample_bench(), *row)
            self.assertIsNone(reading.end())
            self.assertIsNone(reading.end())
            self.assertEqual(reading.words(), row)

    def test_gone_on_with_behind_a_refusal_of_the_end(self):
        bench = sample_bench()
        for row in rows_let_by():
            reading = Reading(bench)
            for word in row:
                ending(reading)
                reading.take(word)
            self.assertEqual(state(reading), state(begun(bench, *row)))
            self.assertIsNone(reading.end())

    def test_gone_on_with_behind_an_end_that_is_none(self):
        reading = begun(a_bench([Option("f", "f")], [Place("p", "any")]))
        for word in ("a", "-f", "--", "-f"):
            self.assertIsNone(reading.end())
            reading.take(word)
        self.assertEqual(reading.said("p"), 2)


class OneReadingOrOneFault(BenchCase):
    def test_the_fault_of_a_word_does_not_hang_on_words_that_were_refused(self):
        bench = sample_bench()
        reading = begun(bench, "copy")
        self.refused(reading, "--f", Unclear, who="f", some=["fast", "force"])
        self.refused(reading, "-z", Unknown, who="z")
        self.refused(reading, "--", Lacks, who="as")
        reading.take("--as=a:b")
        self.refused(reading, "--as=x", Again, who="as")
        reading.take("--")
        reading.take("-z")
        self.assertIsNone(reading.end())
        self.assertEqual(reading.words(), ["copy", "--as=a:b", "--", "-z"])

    def test_spare_words_are_told_whole(self):
        self.refused(begun(sample_bench(), "move", "a", "5"), "it's", Spare, who="it's")


if __name__ == "__main__":
    unittest.main()
