"""What the makers are asked by readings and answers, and the very values that they tell."""

import unittest

from benches import BenchCase, asked_bench, begun
from handed import refusal
from wordbench.answers import answer_of, read
from wordbench.commands import Command
from wordbench.errors import Again, BadValue, Lacks, Unknown, Unnamed
from wordbench.options import Option, Place
from wordbench.readings import Reading

OPTIONS = [
    Option("flag", "f"), Option("one", "o", "one", "m"), Option("last", "l", "last", "m"), Option("each", "e", "each", "m"),
]


class Once(BenchCase):
    def setUp(self):
        self.bench, self.maker = asked_bench(OPTIONS, [Place("p", "any", "m")])

    def asked(self, words):
        self.assertEqual(self.maker.words, words)
        self.maker.words.clear()

    def test_for_each_word_that_is_a_value_from_the_left(self):
        begun(self.bench, "a", "-fo", "b", "--last=c", "-ld", "d", "-e", "", "--each=", "--", "--", "-f", "a")
        self.asked(["a", "b", "c", "d", "d", "", "", "--", "-f", "a"])

    def test_at_once_when_the_word_is_taken(self):
        reading = Reading(self.bench)
        for word, asked in (("-f", []), ("-o", []), ("x", ["x"]), ("--last=y", ["y"]), ("z", ["z"]), ("--", []), ("--", ["--"])):
            reading.take(word)
            self.asked(asked)

    def test_of_none_behind_a_fault(self):
        refusal(self, BadValue, read, self.bench, ["a", "-ebad", "b", "-obad"])
        self.asked(["a", "bad"])
        refusal(self, Again, read, self.bench, ["-ox", "--one=y", "b"])
        self.asked(["x"])
        refusal(self, Unknown, read, self.bench, ["-f", "--zz", "b"])
        self.asked([])

    def test_of_no_letters_value_behind_a_fault_in_one_word(self):
        refusal(self, Again, read, self.bench, ["-f", "-fex"])
        self.asked([])

    def test_not_by_the_end_and_by_what_a_reading_tells(self):
        reading = begun(self.bench, "a", "-eb")
        self.asked(["a", "b"])
        reading.end(), reading.words(), reading.parts(), reading.said("each"), reading.copied(), reading.path(), reading.awaited()
        self.asked([])

    def test_a_copy_asks_of_no_such_word_again(self):
        reading = begun(self.bench, "a", "-eb", "-o")
        self.asked(["a", "b"])
        copy = reading.copied()
        copy.take("c")
        self.asked(["c"])
        reading.take("d")
        self.asked(["d"])
        self.assertEqual(answer_of(copy).value("one"), "C")
        self.assertEqual(answer_of(reading).value("one"), "D")
        self.assertEqual(answer_of(copy.copied()).value("each"), ["B"])
        self.asked([])

    def test_answers_ask_of_no_such_word_again(self):
        reading = begun(self.bench, "a", "-eb", "-oc")
        self.asked(["a", "b", "c"])
        first, second = answer_of(reading), answer_of(reading)
        for answer in (first, second):
            self.assertEqual([answer.value("p"), answer.value("each"), answer.value("one")], [["A"], ["B"], "C"])
            answer.written(), answer.times("p"), len(answer), repr(answer), str(answer), answer == first
        self.asked([])

    def test_read_is_one_reading_and_one_answer(self):
        read(self.bench, ["a", "-e", "b", "--", "c"])
        self.asked(["a", "b", "c"])


class Defaults(BenchCase):
    def setUp(self):
        leaf = Command("leaf", [
            Option("two", "t", "last", "m", default="d3"), Option("three", "h", "one", "m", default="d4"), Option("none", "n", "one", "m"),
        ], [Place("p", "maybe", "m", default="d5"), Place("q", "maybe", "m", default="d6"), Place("s", "maybe", "m")])
        other = Command("other", [Option("far", "f", "one", "m", default="d9")])
        self.bench, self.maker = asked_bench(
            [Option("one", "o", "one", "m", default="d1"), Option("two", "t", "last", "m", default="d2")], commands=[leaf, other],
        )

    def asked(self, words):
        self.assertEqual(self.maker.words, words)
        self.maker.words.clear()

    def test_once_for_each_answer_in_the_order_told(self):
        reading = begun(self.bench, "leaf")
        self.asked([])
        for _ in range(2):
            answer = answer_of(reading)
            self.asked(["d1", "d2", "d3", "d4", "d5", "d6"])
            for _ in range(2):
                self.assertEqual([answer.value("one"), answer.value("two", 0), answer.value("two"), answer.value("p")], ["D1", "D2", "D3", "D5"])
                answer.written()
            self.asked([])

    def test_only_where_no_word_was_said(self):
        read(self.bench, ["-tx", "leaf", "-hy", "z"])
        self.asked(["x", "y", "z", "d1", "d3", "d6"])
        read(self.bench, ["-ox", "-ty", "leaf", "-tx", "-hy", "a", "b", "c"])
        self.asked(["x", "y", "x", "y", "a", "b", "c"])

    def test_of_the_commands_of_the_path_alone(self):
        read(self.bench, ["other"])
        self.asked(["d1", "d2", "d9"])

    def test_not_where_the_row_is_refused(self):
        refusal(self, Unnamed, read, self.bench, ["-ox"])
        self.asked(["x"])
        refusal(self, BadValue, read, self.bench, ["leaf", "bad"])
        self.asked(["bad"])
        bench, maker = asked_bench([Option("a", "a", "one", "m", default="d"), Option("b", "b", "one", "m", needed=True)])
        refusal(self, Lacks, read, bench, [])
        self.assertEqual(maker.words, [])


class TheVeryThings(BenchCase):
    def test_values_are_what_the_maker_told(self):
        things = {"list": ["x"], "none": None, "false": False, "nought": 0, "empty": "", "tuple": (), "dict": {}, "object": object()}
        options = OPTIONS + [Option("two", "t", "one", "m", default="list")]
        for word, thing in things.items():
            with self.subTest(word):
                bench, _ = asked_bench(options, [Place("p", "one", "m"), Place("q", "any", "m")], told=things)
                answer = read(bench, [f"--one={word}", "-l", word, "-e" + word, f"--each={word}", word, word])
                for told in (answer.value("one"), answer.value("last"), answer.value("p"), *answer.value("each"), *answer.value("q")):
                    self.assertIs(told, thing)
                self.assertEqual([len(answer.value("each")), len(answer.value("q"))], [2, 1])
                self.assertIs(answer.value("two"), things["list"])

    def test_of_defaults(self):
        things = {"list": ["x"], "none": None, "false": False, "nought": 0, "empty": "", "tuple": ()}
        for word, thing in things.items():
            bench, _ = asked_bench(
                [Option("one", "", "one", "m", default=word), Option("last", "", "last", "m", default=word)],
                [Place("p", "maybe", "m", default=word)], told=things,
            )
            answer = read(bench, [])
            for name in ("one", "last", "p"):
                self.assertIs(answer.value(name), thing)

    def test_a_list_that_a_maker_tells_stays_the_makers(self):
        thing = ["x"]
        bench, _ = asked_bench(OPTIONS, [Place("p", "any", "m")], told={"a": thing})
        answer = read(bench, ["-oa", "-ea", "a"])
        answer.value("one").append("y")
        self.assertEqual(thing, ["x", "y"])
        self.assertEqual([answer.value("one"), answer.value("each"), answer.value("p")], [["x", "y"], [["x", "y"]], [["x", "y"]]])
        answer.value("each").append("z")
        answer.value("p").clear()
        self.assertEqual([answer.value("each"), answer.value("p")], [[["x", "y"]], [["x", "y"]]])


if __name__ == "__main__":
    unittest.main()
