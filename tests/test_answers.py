import itertools
import unittest

from benches import BenchCase, a_bench, begun, rows_let_by, sample_bench
from handed import NO_TEXTS, refusal
from wordbench.answers import Answer, answer_of, read
from wordbench.commands import Command
from wordbench.errors import BadValue, Lacks, NoName, NoValue, Spare, Unknown, Unnamed
from wordbench.options import Option, Place
from wordbench.readings import Reading

OPTIONS = [
    Option("flag", "f", off=True), Option("count", "c", "count", off=True), Option("one", "o", "one"),
    Option("last", "l", "last", "whole"), Option("each", "e", "each", "whole"),
    Option("two", "t", "one", "whole", default="2"), Option("three", "h", "last", default="x"),
]


class Values(BenchCase):
    def setUp(self):
        self.bench = a_bench(OPTIONS, [Place("p"), Place("q", "maybe"), Place("r", "maybe", "whole", default="8"), Place("s", "any")])

    def tells(self, words, name, value):
        answer = read(self.bench, words.split() + ["p"])
        for _ in range(2):
            told = answer.value(name)
            self.assertEqual(told, value)
            self.assertIs(told.__class__, value.__class__)

    def test_a_flag(self):
        self.tells("", "flag", False)
        self.tells("-f", "flag", True)
        self.tells("--flag", "flag", True)
        self.tells("--no-flag", "flag", False)

    def test_a_count(self):
        for words, many in (
            ("", 0), ("-c", 1), ("-cc --count -c", 4), ("--no-count", 0), ("-cc --no-c", 0), ("--no-c -cc", 2), ("-c --no-c -cc --no-c -ccc", 3),
            ("-c --no-c --no-c", 0), ("--no-c -c --no-c -c", 1),
        ):
            with self.subTest(words):
                self.tells(words, "count", many)

    def test_one(self):
        self.tells("", "one", None)
        self.tells("-ox", "one", "x")
        self.tells("--one=", "one", "")
        self.tells("--o -", "one", "-")

    def test_last(self):
        self.tells("", "last", None)
        self.tells("-l5", "last", 5)
        self.tells("-l5 --last=6 -l 7", "last", 7)
        self.tells("-l7 --last=6 -l 5", "last", 5)

    def test_each(self):
        self.tells("", "each", [])
        self.tells("-e5", "each", [5])
        self.tells("-e5 --each=4 -e 5", "each", [5, 4, 5])

    def test_defaults_of_options(self):
        self.tells("", "two", 2)
        self.tells("-t3", "two", 3)
        self.tells("", "three", "x")
        self.tells("-ha -hb", "three", "b")

    def test_places(self):
        for words, told in (
            ("a", ["a", None, 8, []]), ("a b", ["a", "b", 8, []]), ("a b 3", ["a", "b", 3, []]), ("a b 3 4 5", ["a", "b", 3, ["4", "5"]]),
            ("a -f b -c 3 -- -x --", ["a", "b", 3, ["-x", "--"]]),
        ):
            answer = read(self.bench, words.split())
            self.assertEqual([answer.value(name) for name in "pqrs"], told)

    def test_some(self):
        bench = a_bench([], [Place("p", "some", "whole")])
        self.assertEqual(read(bench, ["1"]).value("p"), [1])
        self.assertEqual(read(bench, ["1", "2", "--", "-3"]).value("p"), [1, 2, -3])

    def test_a_told_list_changed(self):
        bench = a_bench(OPTIONS, [Place("p"), Place("s", "some")])
        answer = read(bench, ["-e1", "-e2", "a", "b", "c"])
        for name, told in (("each", [1, 2]), ("s", ["b", "c"])):
            first = answer.value(name)
            first.append("more")
            answer.value(name).clear()
            self.assertEqual(answer.value(name), told)
            self.assertEqual(answer.times(name), 2)
        empty = read(a_bench(OPTIONS, [Place("any", "any")]), [])
        empty.value("each").append(1)
        empty.value("any").append(1)
        self.assertEqual([empty.value("each"), empty.value("any")], [[], []])


class Depths(BenchCase):
    def setUp(self):
        leaf = Command("leaf", [Option("x", "x", "each"), Option("own", "o", "count")], [Place("p", "any")])
        mid = Command("mid", [Option("y", "y", "one"), Option("mid", "m", "count")], commands=[leaf])
        self.bench = a_bench([Option("x", "x", "count"), Option("y", "y", "one"), Option("top", "t", off=True)], commands=[mid])
        self.answer = read(self.bench, ["-xx", "-y0", "-t", "mid", "-y1", "leaf", "-xa", "-xb", "-xc", "p"])

    def test_with_one(self):
        for name, depth, value, times in (
            ("x", 0, 2, 2), ("y", 0, "0", 1), ("top", 0, True, 1), ("y", 1, "1", 1), ("mid", 1, 0, 0), ("x", 2, ["a", "b", "c"], 3),
            ("own", 2, 0, 0), ("p", 2, ["p"], 1),
        ):
            with self.subTest(name=name, depth=depth):
                self.assertEqual(self.answer.value(name, depth), value)
                self.assertEqual(self.answer.times(name, depth), times)

    def test_without_one_the_last_that_has_it(self):
        for name, value, times in (("x", ["a", "b", "c"], 3), ("y", "1", 1), ("top", True, 1), ("mid", 0, 0), ("own", 0, 0), ("p", ["p"], 1)):
            with self.subTest(name):
                self.assertEqual(self.answer.value(name), value)
                self.assertEqual(self.answer.value(name, None), value)
                self.assertEqual(self.answer.times(name), times)
                self.assertEqual(self.answer.times(name, depth=None), times)

    def test_no_name(self):
        for name, depth in (
            ("z", None), ("", None), ("leaf", None), ("root", None), ("to", None), ("p", 0), ("p", 1), ("x", 1), ("y", 2), ("top", 1), ("z", 0),
            ("x", -1), ("x", -3), ("y", -2), ("x", 3), ("p", 3), ("x", 10 ** 30), ("p", -1), ("top", -3), ("no-top", 0), ("t", 0),
        ):
            with self.subTest(name=name, depth=depth):
                for tell in (self.answer.value, self.answer.times):
                    self.assertEqual(refusal(self, NoName, tell, name, depth).who, name)

    def test_names_of_commands_off_the_path(self):
        bench = a_bench(commands=[Command("a", [Option("x")]), Command("b", [Option("y")])])
        self.assertEqual(refusal(self, NoName, read(bench, ["a"]).value, "y").who, "y")

    def test_path(self):
        self.assertEqual(self.answer.path(), ["root", "mid", "leaf"])
        self.answer.path().append("more")
        self.assertEqual(self.answer.path(), ["root", "mid", "leaf"])
        self.assertEqual(read(a_bench(), []).path(), ["root"])

    def test_by_name(self):
        self.assertEqual(self.answer.value(depth=0, name="x"), 2)
        self.assertEqual(self.answer.times(depth=0, name="x"), 2)
        self.assertEqual(answer_of(reading=begun(a_bench(), "--")).written(), [])
        self.assertEqual(read(row=["mid", "leaf"], bench=self.bench).path(), ["root", "mid", "leaf"])


class Written(BenchCase):
    def setUp(self):
        self.bench = a_bench(OPTIONS, [Place("p", "any")])

    def writes(self, row, words):
        answer = read(self.bench, row)
        for _ in range(2):
            told = answer.written()
            self.assertEqual(told, words)
            told.append("more")
        back = read(self.bench, words)
        self.assertEqual(back, answer)
        self.assertEqual(back.written(), words)
        self.assertEqual(len(back), len(answer))
        for name in [option.long() for option in OPTIONS] + ["p"]:
            self.assertEqual(back.value(name), answer.value(name))
            self.assertEqual(back.times(name), answer.times(name))
        return answer

    def test_nothing(self):
        self.assertEqual(len(self.writes([], [])), 0)
        self.assertEqual(len(self.writes(["--"], [])), 0)

    def test_each_kind(self):
        self.writes(["-f"], ["--flag"])
        self.writes(["--no-fl"], ["--no-flag"])
        self.writes(["-cc"], ["--count", "--count"])
        self.writes(["-o", "x"], ["--one=x"])
        self.writes(["-o", ""], ["--one="])
        self.writes(["-l5", "-l6"], ["--last=6"])
        self.writes(["-e5", "--each=6", "-e", "5"], ["--each=5", "--each=6", "--each=5"])
        self.writes(["--one=a=b c"], ["--one=a=b c"])
        self.writes(["a", "", "-"], ["a", "", "-"])

    def test_a_count_switched_off(self):
        self.writes(["--no-count"], ["--no-count"])
        self.writes(["-cc", "--no-c"], ["--no-count"])
        self.writes(["--no-c", "--no-c"], ["--no-count"])
        self.writes(["-cc", "--no-c", "-c"], ["--count"])
        self.writes(["--no-c", "-ccc"], ["--count"] * 3)

    def test_the_word_is_written_as_it_was(self):
        bench = a_bench([Option("num", "n", "one", "based"), Option("pair", "p", "last", "pair")])
        self.assertEqual(read(bench, ["-n0x0f", "-pa:b:c"]).written(), ["--num=0x0f", "--pair=a:b:c"])

    def test_in_the_options_order_whatever_order_they_were_said_in(self):
        says = ["-f", "-c", "-ox", "-l5", "-e6"]
        words = ["--flag", "--count", "--one=x", "--last=5", "--each=6", "w"]
        for order in itertools.permutations(says):
            for number in (0, 2, 5):
                row = list(order[:number]) + ["w"] + list(order[number:])
                self.assertEqual(read(self.bench, row).written(), words)

    def test_the_divider_just_where_a_places_word_begins_so_and_has_more_signs(self):
        self.writes(["--", "a"], ["a"])
        self.writes(["--", "-"], ["-"])
        self.writes(["--", ""], [""])
        self.writes(["a", "--", "b"], ["a", "b"])
        self.writes(["--", "-x"], ["--", "-x"])
        self.writes(["--", "--"], ["--", "--"])
        self.writes(["--", "--flag"], ["--", "--flag"])
        self.writes(["a", "b", "--", "-1", "c"], ["--", "a", "b", "-1", "c"])
        self.writes(["a", "-f", "-o", "-", "--", "-"], ["--flag", "--one=-", "a", "-"])

    def test_values_that_begin_with_it_need_none(self):
        self.writes(["--one=--x", "a"], ["--one=--x", "a"])
        self.writes(["-o-x", "a"], ["--one=-x", "a"])

    def test_defaults_are_not_written(self):
        self.writes(["-f"], ["--flag"])
        self.writes(["-t2", "-hx"], ["--two=2", "--three=x"])

    def test_beneath_the_root(self):
        self.assertEqual(read(sample_bench(), ["-va5", "cop", "-q", "--as", "a:b", "-f", "x", "--", "-y"]).written(), [
            "--verbose", "--at=5", "copy", "--force", "--quiet", "--as=a:b", "--", "x", "-y",
        ])
        self.assertEqual(read(sample_bench(), ["mor", "u", "--f", "x"]).written(), ["more", "up", "--far=x"])

    def test_read_back(self):
        bench = sample_bench()
        for row in rows_let_by():
            answer = read(bench, row)
            back = read(bench, answer.written())
            self.assertEqual(back, answer)
            self.assertEqual(back.written(), answer.written())
            self.assertEqual(back.path(), answer.path())

    def test_length(self):
        for row, many in (
            ([], 0), (["-f"], 1), (["--no-flag"], 1), (["-ccc"], 1), (["-c", "--no-c"], 1), (["-fc", "-ox", "-e1", "-e2", "a", "b"], 5),
            (["a"], 1), (["-l1", "-l2"], 1), (["-t2"], 1),
        ):
            with self.subTest(row):
                self.assertEqual(len(read(self.bench, row)), many)
        self.assertEqual(len(read(sample_bench(), ["-va5", "copy", "--as=:", "x"])), 4)
        self.assertEqual(len(read(sample_bench(), ["-v", "more", "down"])), 1)

    def test_times(self):
        for row, name, times in (
            ([], "flag", 0), (["-f"], "flag", 1), (["--no-f"], "flag", 1), (["-ccc"], "count", 3), (["-cc", "--no-c"], "count", 1),
            (["--no-c", "-cc"], "count", 2), ([], "count", 0), (["-l1", "-l2"], "last", 1), (["-e1", "-e1"], "each", 2), ([], "two", 0),
            (["-t2"], "two", 1), (["a", "b", "c"], "p", 3), ([], "p", 0), (["--one="], "one", 1),
        ):
            with self.subTest(row=row, name=name):
                self.assertEqual(read(self.bench, row).times(name), times)

    def test_texts(self):
        for row, words, text in (
            ([], [], ""), (["-f", "a b", "it's"], ["--flag", "a b", "it's"], "--flag 'a b' 'it''s'"), ([""], [""], "''"),
            (["--one="], ["--one="], "--one="), (["--one= "], ["--one= "], "'--one= '"),
        ):
            with self.subTest(row):
                answer = read(self.bench, row)
                self.assertEqual(str(answer), text)
                self.assertEqual(repr(answer), f"Answer({words!r})")


class Equal(BenchCase):
    def test_answers_of_one_bench(self):
        bench = a_bench(OPTIONS, [Place("p", "any")])
        alike = [["-fc", "a"], ["a", "--no-c", "-c", "--flag"], ["--fl", "-c", "--", "a"]]
        for one, two in itertools.product(alike, repeat=2):
            self.assertTrue(read(bench, one) == read(bench, two))
            self.assertFalse(read(bench, one) != read(bench, two))
        unlike = [[], ["-f"], ["--no-f"], ["-c"], ["-cc"], ["--no-c"], ["a"], ["a", "b"], ["-t2"], ["-oa"], ["--one="]]
        for one, two in itertools.permutations(unlike, 2):
            self.assertFalse(read(bench, one) == read(bench, two))
            self.assertTrue(read(bench, one) != read(bench, two))

    def test_an_answer_and_anything_else(self):
        class Anything:
            def __eq__(self, other):
                return NotImplemented

        answers = [read(a_bench(), []), read(a_bench(OPTIONS), ["-f"])]
        odd = ["Odd"]
        things = [thing for thing in NO_TEXTS if thing.__class__.__name__ not in odd]
        for answer in answers:
            for thing in things + ["", "--flag", answer.written(), tuple(answer.written()), str(answer), repr(answer), Anything()]:
                self.assertFalse(answer == thing)
                self.assertTrue(answer != thing)
                self.assertFalse(thing == answer)

    def test_defaults_said_and_not_said_are_not(self):
        bench = a_bench(OPTIONS)
        self.assertNotEqual(read(bench, ["-t2"]), read(bench, []))
        self.assertEqual(read(bench, ["-t2"]).value("two"), read(bench, []).value("two"))


class OfReadings(BenchCase):
    def test_gone_on_with_behind_it(self):
        bench = a_bench(OPTIONS, [Place("p", "any")])
        reading = begun(bench, "-ce1", "a")
        answer = answer_of(reading)
        before = [answer.written(), answer.value("each"), answer.value("count"), answer.value("p"), len(answer), str(answer)]
        for word in ("-ce2", "-f", "b", "--no-c", "-t", "7", "--", "-x"):
            reading.take(word)
        self.assertEqual([answer.written(), answer.value("each"), answer.value("count"), answer.value("p"), len(answer), str(answer)], before)
        later = answer_of(reading)
        self.assertEqual(later.written(), ["--flag", "--no-count", "--each=1", "--each=2", "--two=7", "--", "a", "b", "-x"])
        self.assertEqual([answer.value("two"), later.value("two")], [2, 7])

    def test_the_ends_fault(self):
        for words, error, at, who in (
            ([], Unnamed, 0, "root"), (["--at"], NoValue, 1, "at"), (["copy", "x"], Lacks, 2, "as"), (["copy", "--as=:"], Lacks, 2, "from"),
            (["more", "up"], Lacks, 2, "far"), (["more"], Unnamed, 1, "more"),
        ):
            with self.subTest(words):
                reading = begun(sample_bench(), *words)
                caught = refusal(self, error, answer_of, reading)
                self.assertEqual((caught.at, caught.who), (at, who))
                self.assertEqual(reading.words(), words)
                self.row_refused(read, sample_bench(), words, error, at=at, who=who)

    def test_the_first_fault(self):
        bench = sample_bench()
        self.row_refused(read, bench, ["-v", "zz", "-z"], Unknown, at=1, who="zz")
        self.row_refused(read, bench, ["-v", "--", "x"], Unknown, at=1, who="--")
        self.row_refused(read, bench, ["move", "a", "b", "c"], BadValue, at=2, who="to", word="b", why="no whole number")
        self.row_refused(read, bench, ["move", "a", "5", "c", "--zz"], Spare, at=3, who="c")
        self.row_refused(read, bench, ["--at", "--at"], NoValue, at=1, who="at")

    def test_the_row_is_not_changed(self):
        for row in rows_let_by():
            before = list(row)
            answer = read(sample_bench(), row)
            self.assertEqual(row, before)
            written = answer.written()
            row.clear()
            self.assertEqual(answer.written(), written)

    def test_a_maker_that_changes_the_row(self):
        row = ["a", "b", "c"]

        def clearing(word):
            row.clear()
            return word

        bench = a_bench([], [Place("p", "any", "m")], table={"m": (clearing, "s")})
        row[:] = ["a", "b", "c"]
        self.assertEqual(read(bench, row).value("p"), ["a", "b", "c"])

    def test_its_methods_are_its_own(self):
        for name in ("path", "value", "times", "written", "__eq__", "__len__", "__repr__", "__str__"):
            self.assertIn(name, vars(Answer))
        self.assertIsInstance(answer_of(Reading(a_bench())), Answer)
        self.assertIsInstance(read(a_bench(), []), Answer)


class TheOrderOfOptions(BenchCase):
    def test_has_no_bearing_where_none_is_said_twice(self):
        bench = sample_bench()
        says = [["-f"], ["--level", "5"], ["--no-quiet"], ["-tx"], ["--as=a:b"]]
        first = read(bench, ["copy"] + [word for say in says for word in say] + ["x", "y"])
        for order in itertools.permutations(says + [["x"]]):
            row = ["copy"] + [word for say in order for word in say] + ["y"]
            answer = read(bench, row)
            self.assertEqual(answer, first)
            self.assertEqual(answer.value("from"), ["x", "y"])
            self.assertEqual(answer.value("level"), 5)


if __name__ == "__main__":
    unittest.main()
