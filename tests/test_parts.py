import itertools
import unittest

from benches import BenchCase, a_bench, begun, covers, rows_let_by, sample_bench
from wordbench.commands import Command
from wordbench.errors import Fault
from wordbench.options import Option, Place
from wordbench.readings import Reading


class Parts(BenchCase):
    def setUp(self):
        self.bench = a_bench([
            Option("force", "f", off=True), Option("count", "c", "count", off=True), Option("level", "l", "last"),
            Option("tag", "t", "each"),
        ], [Place("p", "any")])

    def tells(self, words, parts):
        reading = begun(self.bench, *words)
        self.assertEqual(reading.parts(), parts)
        for part in reading.parts():
            self.assertIs(part.__class__, tuple)
        self.assertTrue(covers(reading))

    def test_none(self):
        self.tells([], [])

    def test_a_long_word(self):
        self.tells(["--force"], [(0, 0, 7, 0, "option", "force")])
        self.tells(["--fo"], [(0, 0, 4, 0, "option", "force")])
        self.tells(["--no-force"], [(0, 0, 10, 0, "off", "force")])
        self.tells(["--no-c"], [(0, 0, 6, 0, "off", "count")])

    def test_a_value_in_the_same_word(self):
        self.tells(["--level=abc"], [(0, 0, 8, 0, "option", "level"), (0, 8, 11, 0, "value", "level")])
        self.tells(["--l=a=b"], [(0, 0, 4, 0, "option", "level"), (0, 4, 7, 0, "value", "level")])
        self.tells(["-labc"], [(0, 0, 2, 0, "option", "level"), (0, 2, 5, 0, "value", "level")])

    def test_a_value_in_the_same_word_without_signs(self):
        self.tells(["--level="], [(0, 0, 8, 0, "option", "level"), (0, 8, 8, 0, "value", "level")])

    def test_a_value_in_the_next_word(self):
        self.tells(["--level", "abc"], [(0, 0, 7, 0, "option", "level"), (1, 0, 3, 0, "value", "level")])
        self.tells(["-l", "-"], [(0, 0, 2, 0, "option", "level"), (1, 0, 1, 0, "value", "level")])
        self.tells(["-l", ""], [(0, 0, 2, 0, "option", "level"), (1, 0, 0, 0, "value", "level")])

    def test_while_it_is_awaited(self):
        self.tells(["--le"], [(0, 0, 4, 0, "option", "level")])

    def test_a_shorts_word_of_several_letters(self):
        self.tells(["-fcc"], [(0, 0, 2, 0, "option", "force"), (0, 2, 3, 0, "option", "count"), (0, 3, 4, 0, "option", "count")])
        self.tells(["-cftab"], [
            (0, 0, 2, 0, "option", "count"), (0, 2, 3, 0, "option", "force"), (0, 3, 4, 0, "option", "tag"), (0, 4, 6, 0, "value", "tag"),
        ])
        self.tells(["-ct", "x"], [(0, 0, 2, 0, "option", "count"), (0, 2, 3, 0, "option", "tag"), (1, 0, 1, 0, "value", "tag")])

    def test_words_of_places(self):
        self.tells(["abc", "-", ""], [(0, 0, 3, 0, "place", "p"), (1, 0, 1, 0, "place", "p"), (2, 0, 0, 0, "place", "p")])

    def test_the_divider(self):
        self.tells(["--", "--", "-f"], [(0, 0, 2, 0, "divider", ""), (1, 0, 2, 0, "place", "p"), (2, 0, 2, 0, "place", "p")])

    def test_commands_and_what_is_beneath_with_their_depth(self):
        leaf = Command("leaf", [Option("fine", "f", off=True), Option("leaf", "l", "one")], [Place("p")])
        mid = Command("mid", [Option("force", "f")], commands=[leaf, Command("lean")])
        self.bench = a_bench([Option("force", "f")], commands=[mid])
        self.tells(["-f", "m", "--force", "leaf", "--no-fi", "-lx", "--", "-y"], [
            (0, 0, 2, 0, "option", "force"), (1, 0, 1, 1, "command", "mid"), (2, 0, 7, 1, "option", "force"),
            (3, 0, 4, 2, "command", "leaf"), (4, 0, 7, 2, "off", "fine"), (5, 0, 2, 2, "option", "leaf"), (5, 2, 3, 2, "value", "leaf"),
            (6, 0, 2, 2, "divider", ""), (7, 0, 2, 2, "place", "p"),
        ])

    def test_four_deep(self):
        command = Command("d", [Option("o", "o")])
        for name in "cb":
            command = Command(name, commands=[command])
        self.bench = a_bench(commands=[command])
        self.tells(["b", "c", "d", "-o"], [
            (0, 0, 1, 1, "command", "b"), (1, 0, 1, 2, "command", "c"), (2, 0, 1, 3, "command", "d"), (3, 0, 2, 3, "option", "o"),
        ])


class EachSign(BenchCase):
    def test_of_rows_that_are_let_by(self):
        for row in rows_let_by():
            self.assertTrue(covers(begun(sample_bench(), *row)), row)

    def test_of_all_rows_of_some_words(self):
        bench = a_bench([Option("ab", "a", off=True), Option("ac", "c", "each")], [Place("p", "any")])
        words = ["", "-", "--", "-a", "-ac", "-acx", "--ac", "--ac=", "--ac=y", "--no-ab", "z"]
        for row in itertools.product(words, repeat=3):
            reading = Reading(bench)
            try:
                for word in row:
                    reading.take(word)
            except Fault:
                pass
            self.assertTrue(covers(reading), row)
            self.assertEqual(reading.words(), list(row[:len(reading.words())]))


if __name__ == "__main__":
    unittest.main()
