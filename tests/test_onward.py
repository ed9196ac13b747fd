import itertools
import unittest

from benches import REFUSED_ENDS, REFUSED_WORDS, BenchCase, a_bench, begun, ending, rows_let_by, sample_bench, state
from handed import refusal
from wordbench.answers import read
from wordbench.commands import Command
from wordbench.errors import Fault, Unclear
from wordbench.faults import fault, right_words
from wordbench.makers import own_makers
from wordbench.onward import mended, onward, rest
from wordbench.options import Option, Place

TABLE = {**own_makers(), "m": (lambda word: word, "sample"), "bare": (lambda word: word, ""), "stroke": (lambda word: word, "-")}


def needed(name, short="", maker="m", takes="one"):
    return Option(name, short, takes, maker, needed=True)


def words_of_tree(command, table):
    """Some words of each way of saying something of a command and all beneath it."""
    words = ["--"]
    for option in command.options():
        words += [f"--{option.long()}", f"--{option.long()}={table[option.maker()][1]}", table[option.maker()][1]]
        if option.short():
            words += [f"-{option.short()}", f"-{option.short()}{table[option.maker()][1]}"]
    shorts = "".join(option.short() for option in command.options() if option.takes() in ("flag", "count"))
    words += [f"-{shorts}{option.short()}x" for option in command.options() if shorts and option.short()]
    words += [table[place.maker()][1] for place in command.places()]
    for beneath in command.commands():
        words += [beneath.name()] + words_of_tree(beneath, table)
    return sorted(set(words))


def gone_on_with(readings, words):
    """The readings by one word more; of those that tell alike but their words, one."""
    found = {}
    for reading, word in itertools.product(readings, words):
        trial = reading.copied()
        try:
            trial.take(word)
        except Fault:
            continue
        _, path, awaited, _, counts, end = state(trial)
        found[repr([path, awaited, [min(count, 1) for count in counts], end is None, ("divider", "") in [part[4:] for part in trial.parts()]])] = trial
    return list(found.values())


def fewest(bench, row, words):
    """How many words at least put behind the row make one that is let by, tried one by one."""
    readings = [begun(bench, *row)]
    for many in range(12):
        if any(ending(reading) is None for reading in readings):
            return many
        readings = gone_on_with(readings, words)
    return None


def some_benches():
    """Benches, each with rows of which no word is refused."""
    deep = Command("deep", [needed("far", "f"), needed("wide", "w", "m", "each")], [Place("p", "some", "whole")])
    long = Command("long", [needed("a"), needed("b"), needed("c")])
    mid = Command("mid", [needed("near", "n", "m", "last")], commands=[deep, Command("flat", [], [Place("p"), Place("q")])])
    return [
        (a_bench(), [[], ["--"]]),
        (a_bench([needed("one", "o"), needed("two", "t", "whole", "each"), Option("may", "m", "count")], [Place("p"), Place("q", "maybe")], table=TABLE),
         [[], ["-o"], ["--one", "x"], ["-t5"], ["-mt"], ["w"], ["w", "v"], ["-ox", "-t5", "--"], ["w", "-ox", "-t5", "--", "--"], ["-ox", "-t", "5", "--", "-"]]),
        (a_bench([], [Place("p", "one", "stroke"), Place("q", "one", "bare"), Place("s", "some", "pair")], table=TABLE),
         [[], ["a"], ["a", "b"], ["--"], ["--", "-a", "b"], ["a", "b", ":"]]),
        (a_bench([Option("v", "v", "one", "bare")], commands=[long, mid, Command("other", [needed("x"), needed("y")])], table=TABLE),
         [[], ["-v"], ["--v="], ["mid"], ["mid", "-n"], ["mid", "-nx"], ["mid", "-nx", "deep"], ["mid", "-nx", "deep", "-w"], ["long", "--b"], ["other"],
          ["mid", "-nx", "flat"], ["mid", "-nx", "flat", "--"]]),
        (sample_bench(), [[], ["-v"], ["-a"], ["copy"], ["copy", "-l"], ["copy", "x"], ["copy", "--as"], ["copy", "--as=:", "--"], ["move", "-d"],
                          ["more"], ["more", "up"], ["more", "down"], ["more", "up", "--far"]]),
    ]


class Rest(BenchCase):
    def tells(self, bench, row, words):
        before = list(row)
        for _ in range(2):
            told = rest(bench, row)
            self.assertIs(told.__class__, list)
            self.assertEqual(told, words)
            told.append("more")
        self.assertEqual(row, before)
        self.assertIsNone(fault(bench, row + words))

    def test_no_words_where_the_row_is_let_by(self):
        for row in rows_let_by():
            self.tells(sample_bench(), row, [])
        self.tells(a_bench(), [], [])

    def many(self, bench, row, many):
        told = rest(bench, row)
        self.assertEqual(len(told), many)
        self.assertIsNone(fault(bench, row + told))

    def test_a_value_awaited(self):
        bench = a_bench([Option("v", "v", "one", "whole"), Option("f", "f")], [Place("p", "maybe")])
        for row in (["-v"], ["--v"], ["-fv"], ["a", "-v"]):
            self.many(bench, row, 1)

    def test_needed_options_and_places_without_a_word(self):
        bench = a_bench([needed("one", "o"), Option("two", "t", "one"), needed("three", "h")], [Place("p"), Place("q", "some"), ], table=TABLE)
        for row, many in ((["-tx"], 4), ([], 4), (["-ox"], 3), (["-o"], 4), (["a"], 3), (["a", "b", "c"], 2), (["a", "-hx", "-t", "y"], 2), (["-oa", "-ha", "b"], 1)):
            with self.subTest(row):
                self.many(bench, row, many)

    def test_places_that_need_none(self):
        self.many(a_bench([], [Place("p", "maybe"), Place("q", "any")]), [], 0)

    def test_commands_beneath_one_of_which_needs_fewer(self):
        few = Command("few", [needed("x")])
        lots = Command("lots", [needed("x"), needed("y")], [Place("p")])
        for order in itertools.permutations([few, lots, Command("more", [], [Place("p"), Place("q")])]):
            bench = a_bench(commands=list(order), table=TABLE)
            self.tells(bench, [], ["few", "--x=sample"])
            self.many(bench, ["lots"], 3)

    def test_a_deeper_one_may_need_fewer(self):
        deep = Command("a", commands=[Command("b", commands=[Command("c")])])
        self.tells(a_bench(commands=[Command("x", [needed("k"), needed("l"), needed("m")]), deep], table=TABLE), [], ["a", "b", "c"])
        self.tells(a_bench(commands=[deep, Command("x", [needed("k")])], table=TABLE), [], ["x", "--k=sample"])

    def test_needed_options_at_several_depths(self):
        leaf = Command("leaf", [needed("z", "z")], [Place("p", "one", "m")])
        bench = a_bench([needed("x", "x")], commands=[Command("mid", [needed("y", "y")], commands=[leaf])], table=TABLE)
        self.tells(bench, [], ["--x=sample", "mid", "--y=sample", "leaf", "--z=sample", "sample"])
        self.tells(bench, ["-x"], ["sample", "mid", "--y=sample", "leaf", "--z=sample", "sample"])
        self.tells(bench, ["-xa", "mid"], ["--y=sample", "leaf", "--z=sample", "sample"])
        self.tells(bench, ["-xa", "mid", "-ya", "leaf", "w"], ["--z=sample"])

    def test_behind_the_divider(self):
        bench = a_bench([needed("x", "x")], [Place("p", "one", "m"), Place("q", "some", "m")], table=TABLE)
        self.tells(bench, ["-xa", "--"], ["sample", "sample"])
        self.tells(bench, ["-xa", "--", "--"], ["sample"])
        self.tells(bench, ["-xa", "--", "-", "-"], [])

    def test_samples_of_every_plain_kind(self):
        for maker, sample in (("bare", ""), ("stroke", "-"), ("m", "sample")):
            bench = a_bench([needed("x", "x", maker)], [Place("p", "one", maker)], table=TABLE)
            self.tells(bench, [], [f"--x={sample}", sample])
            self.tells(bench, ["-x"], [sample, sample])

    def test_no_row_of_fewer_words_behind_it_is_let_by(self):
        for bench, rows in some_benches():
            words = words_of_tree(bench.root(), {name: (None, bench.makers().sample(name)) for name in bench.makers().names()})
            for row in rows:
                with self.subTest(row):
                    told = rest(bench, row)
                    self.assertIsNone(fault(bench, row + told))
                    self.assertEqual(fewest(bench, row, words), len(told))

    def test_by_name(self):
        self.assertEqual(rest(row=["more"], bench=sample_bench()), ["down"])
        self.assertEqual(mended(row=["more", "x"], bench=sample_bench()), ["more", "down"])
        self.assertEqual(onward(row=["more", "down"], bench=sample_bench()), [("divider", "", ["--"]), ("end", "", [])])


class Refused(BenchCase):
    def test_rest_and_onward_refuse_a_row_of_which_a_word_is_refused(self):
        for row, told in REFUSED_WORDS:
            for words, tell in itertools.product((row, row + ["x"]), (rest, onward)):
                before = list(words)
                with self.assertRaises(Fault) as caught:
                    tell(sample_bench(), words)
                error = caught.exception
                self.assertEqual((error.at, error.__class__.__name__.lower(), error.who), told)
                self.assertEqual(words, before)

    def test_not_one_that_only_its_end_refuses(self):
        for row, _ in REFUSED_ENDS:
            self.assertIsNone(fault(sample_bench(), row + rest(sample_bench(), row)))
            self.assertTrue(onward(sample_bench(), row))

    def test_with_all_its_fields(self):
        error = refusal(self, Unclear, rest, sample_bench(), ["mo"])
        self.assertEqual(error.some, ["more", "move"])


class Mended(BenchCase):
    def test_a_row_that_is_let_by(self):
        for row in rows_let_by():
            before = list(row)
            told = mended(sample_bench(), row)
            self.assertEqual(told, row)
            told.append("more")
            self.assertEqual(row, before)
            self.assertEqual(mended(sample_bench(), row), row)

    def test_one_that_only_its_end_refuses(self):
        for row, _ in REFUSED_ENDS:
            told = mended(sample_bench(), row)
            self.assertEqual(told[:len(row)], row)
            self.assertEqual(len(told), len(row) + len(rest(sample_bench(), row)))
            self.assertGreater(len(told), len(row))
            self.assertIsNone(fault(sample_bench(), told))

    def test_one_with_a_refused_word(self):
        for row, found in REFUSED_WORDS:
            for more in ([], ["x"], ["copy", "--as=:", "x"]):
                told = mended(sample_bench(), row + more)
                right = right_words(sample_bench(), row)
                self.assertEqual(told[:found[0]], right)
                self.assertEqual(len(told), len(right) + len(rest(sample_bench(), right)))
                self.assertIsNone(fault(sample_bench(), told))


class Onward(BenchCase):
    def kinds(self, bench, row):
        """Kind, who and the first word of each, when each has been looked at."""
        before = list(row)
        found = onward(bench, row)
        self.assertIs(found.__class__, list)
        for each in found:
            self.assertIs(each.__class__, tuple)
            kind, who, words = each
            self.assertIs(words.__class__, list)
            self.assertIsNone(fault(bench, row + words))
            if kind == "end":
                self.assertEqual((who, words), ("", []))
                continue
            self.assertEqual(len(words) - 1, len(rest(bench, row + words[:1])))
            reading = begun(bench, *row, words[0])
            self.assertEqual([part for part in reading.parts() if part[0] == len(row)][0][4:], (kind, who))
        self.assertEqual(row, before)
        return [(kind, who, *words[:1]) for kind, who, words in found]

    def test_a_value_awaited_alone(self):
        bench = a_bench([Option("v", "v", "each", "m"), Option("f", "f", off=True), needed("n", "n", "bare")], [Place("p")], table=TABLE)
        self.assertEqual(self.kinds(bench, ["-v"]), [("value", "v", "sample")])
        self.assertEqual(self.kinds(bench, ["-fn"]), [("value", "n", "")])
        self.assertEqual([len(words) for _, _, words in onward(bench, ["-v"])], [3])

    def test_the_order_with_places(self):
        bench = a_bench([
            Option("flag", "f", off=True), Option("count", "c", "count", off=True), Option("one", "o", "one", "m"), Option("plain", "p"),
        ], [Place("where", "maybe", "m"), Place("rest", "any", "bare")], table=TABLE)
        self.assertEqual(self.kinds(bench, []), [
            ("option", "flag", "--flag"), ("off", "flag", "--no-flag"), ("option", "count", "--count"), ("off", "count", "--no-count"),
            ("option", "one", "--one"), ("option", "plain", "--plain"), ("place", "where", "sample"), ("divider", "", "--"), ("end", ""),
        ])
        self.assertEqual(onward(bench, [])[4], ("option", "one", ["--one", "sample"]))

    def test_the_order_with_commands(self):
        bench = a_bench([Option("flag", "f", off=True)], commands=[Command("b", [], [Place("p", "one", "m")]), Command("a"), Command("ab")], table=TABLE)
        self.assertEqual(self.kinds(bench, []), [
            ("option", "flag", "--flag"), ("off", "flag", "--no-flag"), ("command", "b", "b"), ("command", "a", "a"), ("command", "ab", "ab"),
        ])
        self.assertEqual(onward(bench, [])[2], ("command", "b", ["b", "sample"]))
        self.assertEqual(len(onward(bench, [])[0][2]), 2)

    def test_off_of_those_alone_that_have_it(self):
        bench = a_bench([Option("x"), Option("xy", off=True), Option("n", "n", "count")])
        self.assertEqual(self.kinds(bench, []), [
            ("option", "x", "--x"), ("option", "xy", "--xy"), ("off", "xy", "--no-xy"), ("option", "n", "--n"), ("divider", "", "--"), ("end", ""),
        ])

    def test_options_that_may_not_be_said_again_are_left_out(self):
        bench = a_bench([
            Option("flag", "f", off=True), Option("one", "o", "one"), Option("count", "c", "count", off=True), Option("last", "l", "last"),
            Option("each", "e", "each"),
        ])
        for row in (["-f", "-ox", "-ce1"], ["--no-flag", "--one=", "--no-count", "-lx"]):
            self.assertEqual(self.kinds(bench, row), [
                ("option", "count", "--count"), ("off", "count", "--no-count"), ("option", "last", "--last"), ("option", "each", "--each"),
                ("divider", "", "--"), ("end", ""),
            ])

    def test_options_beside_another_of_their_group_are_left_out(self):
        bench = a_bench([
            Option("red", "r", "count", off=True), Option("blue", "b", "each"), Option("green", "g", off=True), Option("free", "f"),
        ], groups=[["red", "blue", "green"]])
        for row in (["-r"], ["--no-red"], ["-rr"]):
            self.assertEqual([each[:2] for each in self.kinds(bench, row)], [
                ("option", "red"), ("off", "red"), ("option", "free"), ("divider", ""), ("end", ""),
            ])
        self.assertEqual([each[1] for each in self.kinds(bench, ["-bx"])], ["blue", "free", "", ""])
        self.assertEqual([each[1] for each in self.kinds(bench, ["--no-green"])], ["free", "", ""])

    def test_what_was_said_above_does_not_count(self):
        options = [Option("flag", "f"), Option("one", "o", "one")]
        bench = a_bench(options, commands=[Command("c", options)])
        self.assertEqual([each[1] for each in self.kinds(bench, ["-f", "-ox", "c"])], ["flag", "one", "", ""])

    def test_commands_only_where_no_needed_option_is_unsaid(self):
        bench = a_bench([needed("x", "x"), needed("y", "y")], commands=[Command("a"), Command("b")], table=TABLE)
        self.assertEqual([each[:2] for each in self.kinds(bench, [])], [("option", "x"), ("option", "y")])
        self.assertEqual([each[:2] for each in self.kinds(bench, ["-ya"])], [("option", "x")])
        self.assertEqual([each[:2] for each in self.kinds(bench, ["-ya", "-xb"])], [("command", "a"), ("command", "b")])

    def test_the_first_place_that_is_not_full(self):
        bench = a_bench([], [Place("p", "one", "m"), Place("q", "maybe", "bare"), Place("r", "maybe", "stroke")], table=TABLE)
        self.assertEqual(self.kinds(bench, []), [("place", "p", "sample"), ("divider", "", "--")])
        self.assertEqual(self.kinds(bench, ["a"]), [("place", "q", ""), ("divider", "", "--"), ("end", "")])
        self.assertEqual(self.kinds(bench, ["a", "b"]), [("place", "r", "-"), ("divider", "", "--"), ("end", "")])
        self.assertEqual(self.kinds(bench, ["a", "b", "c"]), [("divider", "", "--"), ("end", "")])
        bench = a_bench([], [Place("p"), Place("q", "some", "whole")])
        for row in (["a"], ["a", "1"], ["a", "1", "2"]):
            self.assertEqual(self.kinds(bench, row)[0][:2], ("place", "q"))

    def test_a_place_while_a_needed_option_is_unsaid_but_no_divider_and_no_end(self):
        bench = a_bench([needed("x", "x")], [Place("p", "any")], table=TABLE)
        self.assertEqual([each[:2] for each in self.kinds(bench, [])], [("option", "x"), ("place", "p")])
        self.assertEqual([each[:2] for each in self.kinds(bench, ["-xa"])], [("place", "p"), ("divider", ""), ("end", "")])

    def test_behind_the_divider_a_place_and_the_end_alone(self):
        bench = a_bench([Option("flag", "f", off=True), Option("c", "c", "count")], [Place("p", "one", "m"), Place("q", "maybe", "m")], table=TABLE)
        self.assertEqual(self.kinds(bench, ["--"]), [("place", "p", "sample")])
        self.assertEqual(self.kinds(bench, ["a", "--"]), [("place", "q", "sample"), ("end", "")])
        self.assertEqual(self.kinds(bench, ["--", "--", "-f"]), [("end", "")])
        self.assertEqual(self.kinds(a_bench([Option("f", "f")]), ["--"]), [("end", "")])

    def test_the_end_where_the_row_is_let_by(self):
        for row in rows_let_by():
            self.assertEqual(onward(sample_bench(), row)[-1], ("end", "", []))
        for row, _ in REFUSED_ENDS:
            self.assertNotIn("end", [kind for kind, _, _ in onward(sample_bench(), row)])

    def test_lists_of_the_askers_own(self):
        bench = sample_bench()
        first = onward(bench, ["copy"])
        before = [(kind, who, list(words)) for kind, who, words in first]
        for _, _, words in first:
            words.append("more")
        first.clear()
        self.assertEqual(onward(bench, ["copy"]), before)

    def test_of_each_its_words_go_on(self):
        for bench, rows in some_benches():
            for row in rows:
                with self.subTest(row):
                    self.kinds(bench, row)

    def test_whatever_word_is_taken_says_one_of_the_told_things_first(self):
        words = [
            "", "-", "--", "x", "5", ":", "-v", "-vv", "-a", "-ax", "--at", "--a=", "copy", "c", "move", "more", "mo", "up", "down", "-f", "-fq",
            "--no-f", "--no-force", "--no-q", "--q", "--as", "--as=:", "-t", "--tag=", "-F", "-s", "-sq", "-d", "--dry", "--all", "--far", "--far=1",
        ]
        for bench, rows in some_benches():
            for row, word in itertools.product(rows, words):
                told = [(kind, who) for kind, who, _ in onward(bench, row)]
                reading = begun(bench, *row)
                try:
                    reading.take(word)
                except Fault:
                    continue
                first = [part for part in reading.parts() if part[0] == len(row)][0]
                self.assertIn(first[4:], told, (row, word))


class ReadBack(BenchCase):
    def test_mended_rows_are_read(self):
        for row, _ in REFUSED_WORDS + REFUSED_ENDS:
            self.assertIsNotNone(read(sample_bench(), mended(sample_bench(), row)))


if __name__ == "__main__":
    unittest.main()
