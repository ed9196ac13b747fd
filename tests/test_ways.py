import itertools
import unittest

from benches import BenchCase, a_bench, begun, rows_let_by, sample_bench
from wordbench.answers import read
from wordbench.commands import Command
from wordbench.errors import Again, BadValue, Fault, Lacks, NoValue, Spare, Together, Unclear, Unknown, Unnamed, Unwanted
from wordbench.options import Option, Place
from wordbench.ways import clipped, spelled, units

WAYS = (units, spelled, clipped)
OPTIONS = [
    Option("force", "f", off=True), Option("count", "c", "count", off=True), Option("one", "o", "one"),
    Option("last", "l", "last"), Option("each", "e", "each"), Option("long"), Option("longer", "", "each"),
]


class WaysCase(BenchCase):
    def setUp(self):
        self.bench = a_bench(OPTIONS, [Place("p", "any")])

    def tells(self, way, row, words):
        before = list(row)
        answer = read(self.bench, row)
        for _ in range(2):
            told = way(self.bench, row)
            self.assertIs(told.__class__, list)
            self.assertEqual(told, words)
            told.append("more")
        self.assertEqual(row, before)
        if way != units:
            self.assertEqual(read(self.bench, words), answer)


class Units(WaysCase):
    def test_none(self):
        self.tells(units, [], [])

    def test_each_word_is_one(self):
        self.tells(units, ["-f", "a", "--count", "-cc", "b"], [["-f"], ["a"], ["--count"], ["-cc"], ["b"]])

    def test_a_value_in_the_next_word(self):
        self.tells(units, ["--one", "x", "a"], [["--one", "x"], ["a"]])
        self.tells(units, ["-l", "", "-l", "-", "--las", "y"], [["-l", ""], ["-l", "-"], ["--las", "y"]])

    def test_a_value_in_the_same_word(self):
        self.tells(units, ["--one=x", "-ly", "--each=", "a"], [["--one=x"], ["-ly"], ["--each="], ["a"]])

    def test_a_shorts_word_that_awaits_a_value(self):
        self.tells(units, ["-fce", "x", "-e", "y", "z"], [["-fce", "x"], ["-e", "y"], ["z"]])

    def test_the_divider_and_words_behind_it(self):
        self.tells(units, ["a", "--", "--one", "x", "--", ""], [["a"], ["--"], ["--one"], ["x"], ["--"], [""]])

    def test_commands(self):
        self.bench = sample_bench()
        self.tells(units, ["-a", "x", "cop", "--as", "a:b", "y"], [["-a", "x"], ["cop"], ["--as", "a:b"], ["y"]])
        self.tells(units, ["more", "down"], [["more"], ["down"]])

    def test_lists_of_the_askers_own(self):
        row = ["--one", "x", "a"]
        told = units(self.bench, row)
        told[0].append("more")
        told[1].clear()
        self.assertEqual(row, ["--one", "x", "a"])
        self.assertEqual(units(self.bench, row), [["--one", "x"], ["a"]])

    def test_all_together_are_the_row(self):
        for row in rows_let_by():
            self.assertEqual([word for unit in units(sample_bench(), row) for word in unit], row)


class Spelled(WaysCase):
    def test_none(self):
        self.tells(spelled, [], [])

    def test_beginnings(self):
        self.tells(spelled, ["--fo", "--co", "--o=x", "--las", "y"], ["--force", "--count", "--one=x", "--last=y"])

    def test_shorts_joined(self):
        self.tells(spelled, ["-fccex", "-ce", "y"], ["--force", "--count", "--count", "--each=x", "--count", "--each=y"])

    def test_values_in_the_next_word(self):
        self.tells(spelled, ["--one", "", "-l", "-", "-e", "a b"], ["--one=", "--last=-", "--each=a b"])

    def test_what_is_switched_off(self):
        self.tells(spelled, ["--no-f", "-c", "--no-c", "-c"], ["--no-force", "--count", "--no-count", "--count"])

    def test_in_the_rows_order_with_all_that_was_said(self):
        self.tells(spelled, ["a", "-l1", "b", "-l2", "-c", "c"], ["a", "--last=1", "b", "--last=2", "--count", "c"])

    def test_commands_shortened(self):
        self.bench = sample_bench()
        self.tells(spelled, ["-v", "mor", "--a", "u", "--fa", "x"], ["--verbose", "more", "--all", "up", "--far=x"])
        self.tells(spelled, ["c", "--as=:", "-F", "x"], ["copy", "--as=:", "--fast", "x"])

    def test_behind_the_divider(self):
        self.tells(spelled, ["-f", "--", "-f", "--fo", "--", "x"], ["--force", "--", "-f", "--fo", "--", "x"])
        self.tells(spelled, ["a", "--"], ["a", "--"])


class Clipped(WaysCase):
    def test_none(self):
        self.tells(clipped, [], [])

    def test_options_with_a_short(self):
        self.tells(clipped, ["--force"], ["-f"])
        self.tells(clipped, ["--count"], ["-c"])
        self.tells(clipped, ["--one=x"], ["-ox"])
        self.tells(clipped, ["--one", "-"], ["-o-"])
        self.tells(clipped, ["--one== "], ["-o= "])

    def test_options_without_a_short(self):
        self.tells(clipped, ["--long"], ["--long"])
        self.tells(clipped, ["--longer=x"], ["--longe=x"])
        self.tells(clipped, ["--longer", ""], ["--longe="])

    def test_switched_off(self):
        self.tells(clipped, ["--no-force", "--no-count"], ["--no-f", "--no-c"])

    def test_a_value_without_signs(self):
        self.tells(clipped, ["--one=", "-l", "", "-e", ""], ["--o=", "--la=", "--e="])

    def test_shorts_joined(self):
        self.tells(clipped, ["-f", "-c", "--count"], ["-fcc"])
        self.tells(clipped, ["--count", "--each=x"], ["-cex"])
        self.tells(clipped, ["-cf", "-c", "-e", "x"], ["-cfcex"])

    def test_not_joined_behind_a_value(self):
        self.tells(clipped, ["-ex", "-c", "-ly", "-c", "-f"], ["-ex", "-cly", "-cf"])
        self.tells(clipped, ["-e1", "-e2"], ["-e1", "-e2"])

    def test_a_long_word_between(self):
        self.tells(clipped, ["-c", "--long", "-c"], ["-c", "--long", "-c"])
        self.tells(clipped, ["-c", "--no-count", "-c", "-f"], ["-c", "--no-c", "-cf"])
        self.tells(clipped, ["-c", "--one=", "-c"], ["-c", "--o=", "-c"])

    def test_a_command_between(self):
        options = [Option("aa", "a", "count"), Option("bb", "b", "count")]
        self.bench = a_bench(options, commands=[Command("cc", options, commands=[Command("dd", options, [Place("p", "any")])])])
        self.tells(clipped, ["-a", "--bb", "cc", "--aa", "-b", "dd", "-b", "--aa", "x"], ["-ab", "c", "-ab", "d", "-ba", "x"])

    def test_a_places_word_between(self):
        self.tells(clipped, ["-c", "a", "-c", "-c", "-", "-f"], ["-c", "a", "-cc", "-", "-f"])

    def test_least_beginnings(self):
        self.bench = a_bench([
            Option("not", off=True), Option("nob"), Option("no"), Option("list"), Option("lists"), Option("lax", "", "each"),
            Option("force", "f", off=True), Option("fork"), Option("x", "", "count", off=True),
        ])
        for row, words in (
            (["--not"], ["--not"]), (["--nob"], ["--nob"]), (["--no"], ["--no"]), (["--no-not"], ["--no-n"]), (["--list"], ["--list"]),
            (["--lists"], ["--lists"]), (["--lax=x", "--lax", "y"], ["--la=x", "--la=y"]), (["--no-force"], ["--no-f"]), (["--fork"], ["--fork"]),
            (["--x", "--no-x", "--x"], ["--x", "--no-x", "--x"]), (["--force"], ["-f"]),
        ):
            with self.subTest(row):
                self.tells(clipped, row, words)

    def test_no_names_count_among_the_beginnings(self):
        self.bench = a_bench([Option("north"), Option("old", off=True)])
        self.tells(clipped, ["--north", "--no-old"], ["--nor", "--no-"])
        self.bench = a_bench([Option("north"), Option("old")])
        self.tells(clipped, ["--north", "--old"], ["--n", "--o"])

    def test_commands_by_their_least_beginning(self):
        self.bench = a_bench(commands=[Command("list"), Command("lists"), Command("level", commands=[Command("list")]), Command("x")])
        for row, words in (
            (["list"], ["list"]), (["lists"], ["lists"]), (["level", "list"], ["le", "l"]), (["le", "li"], ["le", "l"]), (["x"], ["x"]),
        ):
            self.tells(clipped, row, words)

    def test_behind_the_divider(self):
        self.tells(clipped, ["--force", "--", "--force", "-c", "--"], ["-f", "--", "--force", "-c", "--"])
        self.tells(clipped, ["a", "--", "-f", "-c"], ["a", "--", "-f", "-c"])
        self.tells(clipped, ["--"], ["--"])

    def test_beneath_the_root(self):
        self.bench = sample_bench()
        self.tells(
            clipped, ["--verbose", "--at", "5", "copy", "--as", "a:b", "--force", "--quiet", "x", "--tag=", "--", "-y"],
            ["-va5", "c", "--a=a:b", "-fq", "x", "--t=", "--", "-y"],
        )


class Refused(BenchCase):
    ROWS = [
        ([], Unnamed, {"at": 0, "who": "root"}),
        (["zz", "-z"], Unknown, {"at": 0, "who": "zz"}),
        (["mo"], Unclear, {"at": 0, "who": "mo", "some": ["more", "move"]}),
        (["copy", "--force=1"], Unwanted, {"at": 1, "who": "force"}),
        (["--at=1", "-v", "-a2"], Again, {"at": 2, "who": "at"}),
        (["copy", "-Fs"], Together, {"at": 1, "who": "slow", "other": "fast"}),
        (["--at", "--", "x"], NoValue, {"at": 1, "who": "at"}),
        (["--at"], NoValue, {"at": 1, "who": "at"}),
        (["move", "a", "b"], BadValue, {"at": 2, "who": "to", "word": "b", "why": "no whole number"}),
        (["copy", "x"], Lacks, {"at": 2, "who": "as"}),
        (["copy", "--as=:"], Lacks, {"at": 2, "who": "from"}),
        (["more", "down", "x"], Spare, {"at": 2, "who": "x"}),
    ]

    def test_each_refuses_as_read_does(self):
        for row, error, fields in self.ROWS:
            for tell in WAYS + (read,):
                with self.subTest(row=row, tell=tell.__name__):
                    self.row_refused(tell, sample_bench(), row, error, **fields)


class Alike(BenchCase):
    def alike(self, bench, row):
        answer = read(bench, row)
        at_length, short = spelled(bench, row), clipped(bench, row)
        for other in (at_length, short, answer.written(), spelled(bench, short), clipped(bench, at_length)):
            back = read(bench, other)
            self.assertEqual(back, answer, (row, other))
            for depth, name in enumerate(answer.path()):
                self.assertEqual(back.path()[depth], name)
        self.assertEqual(spelled(bench, at_length), at_length)
        self.assertEqual(clipped(bench, short), short)
        self.assertEqual(spelled(bench, short), at_length)
        self.assertEqual(clipped(bench, at_length), short)
        self.assertEqual(spelled(bench, answer.written()), answer.written())

    def test_rows_spelled_clipped_and_written_read_as_equal_answers(self):
        for row in rows_let_by():
            self.alike(sample_bench(), row)

    def test_all_rows_of_some_words(self):
        bench = a_bench(OPTIONS, [Place("p", "any")])
        words = ["", "-", "--", "-f", "-ce", "-cex", "--las", "--las=", "--no-c", "--longe=-c", "--one=y", "z"]
        many = 0
        for row in itertools.product(words, repeat=3):
            try:
                read(bench, list(row))
            except Fault:
                continue
            many += 1
            self.alike(bench, list(row))
        self.assertGreater(many, 500)

    def test_by_name(self):
        bench = sample_bench()
        row = ["-v", "mor", "d"]
        self.assertEqual(units(row=row, bench=bench), [["-v"], ["mor"], ["d"]])
        self.assertEqual(spelled(row=row, bench=bench), ["--verbose", "more", "down"])
        self.assertEqual(clipped(row=row, bench=bench), ["-v", "mor", "d"])

    def test_a_reading_knows_nothing_of_it(self):
        bench = sample_bench()
        reading = begun(bench, "-v")
        spelled(bench, ["more", "down"])
        self.assertEqual(reading.words(), ["-v"])


if __name__ == "__main__":
    unittest.main()
