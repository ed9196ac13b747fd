import unittest

from benches import BenchCase, a_bench, sample_bench
from handed import refusal
from wordbench.bench import Bench
from wordbench.commands import Command
from wordbench.errors import NoName
from wordbench.makers import Makers, own_makers
from wordbench.options import Option, Place
from wordbench.usage import filled, helped, usage

MISSING = [
    ([], ""), (["rot"], "rot"), (["roo"], "roo"), ([""], ""), (["copy"], "copy"), (["root", "cop"], "cop"), (["root", "zz"], "zz"),
    (["root", "more", "u"], "u"), (["root", "more", "copy"], "copy"), (["root", "zz", "yy"], "zz"), (["zz", "copy"], "zz"),
    (["root", "copy", "copy"], "copy"), (["root", "root"], "root"), (["root", ""], ""), (["root", "more", "up", "x"], "x"),
]


def bench_of(command):
    return Bench(command, Makers(own_makers()))


class Filled(unittest.TestCase):
    def fills(self, lines, words, width, *more):
        before = list(words)
        for _ in range(2):
            told = filled(words, width, *more)
            self.assertIs(told.__class__, list)
            self.assertEqual(told, lines)
            told.append("more")
        self.assertEqual(words, before)

    def test_no_words(self):
        self.fills([""], [], 20)
        self.fills(["first"], [], 20, "first", "later")
        self.fills(["a first text that is wide"], [], 20, "a first text that is wide", "later")

    def test_one_line(self):
        self.fills(["a b c"], ["a", "b", "c"], 20)
        self.fills(["> a b c"], ["a", "b", "c"], 20, "> ")
        self.fills([">a b c"], ["a", "b", "c"], 20, ">", "..")

    def test_words_that_just_fit_and_one_sign_too_wide(self):
        self.fills(["a" * 9 + " " + "b" * 10], ["a" * 9, "b" * 10], 20)
        self.fills(["a" * 9, "b" * 11], ["a" * 9, "b" * 11], 20)
        self.fills(["> " + "a" * 9 + " " + "b" * 8], ["a" * 9, "b" * 8], 20, "> ")
        self.fills(["> " + "a" * 9, "b" * 9], ["a" * 9, "b" * 9], 20, "> ")
        self.fills(["a" * 20, "b"], ["a" * 20, "b"], 20)

    def test_later_lines_have_their_own_text(self):
        self.fills(["a" * 15, "--" + "b" * 9 + " " + "c" * 8], ["a" * 15, "b" * 9, "c" * 8], 20, "", "--")
        self.fills(["a" * 15, "--" + "b" * 9, "--" + "c" * 9], ["a" * 15, "b" * 9, "c" * 9], 20, "", "--")

    def test_one_word_wider_than_the_width(self):
        self.fills(["a" * 21], ["a" * 21], 20)
        self.fills(["a" * 30, "b", "c" * 30, "d"], ["a" * 30, "b", "c" * 30, "d"], 20)
        self.fills(["first" + "a" * 16, "l b"], ["a" * 16, "b"], 20, "first", "l ")
        self.fills(["x" * 25 + "a", "y" * 25 + "b", "y" * 25 + "c"], ["a", "b", "c"], 20, "x" * 25, "y" * 25)

    def test_texts_of_unlike_lengths(self):
        words = ["aaaa"] * 8
        self.fills(["            aaaa", "aaaa aaaa aaaa aaaa", "aaaa aaaa aaaa"], words, 20, " " * 12)
        self.fills(["aaaa aaaa aaaa aaaa", "            aaaa", "            aaaa", "            aaaa", "            aaaa"], words, 20, "", " " * 12)

    def test_wide(self):
        self.fills([" ".join(["aaaa"] * 40), "aaaa"], ["aaaa"] * 41, 200)
        self.fills([" ".join(["aaaa"] * 39) + " aaaaa", "aaaa"], ["aaaa"] * 39 + ["aaaaa", "aaaa"], 200)
        self.fills([" ".join(["aaaa"] * 39), "aaaaaa"], ["aaaa"] * 39 + ["aaaaaa"], 200)
        self.fills([" ".join(["aaaa"] * 4), "aaaa"], ["aaaa"] * 5, 20)

    def test_all_widths(self):
        words = [("abcdefghij" * 3)[:1 + number * 7 % 23] for number in range(60)]
        for width in range(20, 201):
            lines = filled(words, width, "12345", "123")
            heads = ["12345"] + ["123"] * (len(lines) - 1)
            rows = [line[len(head):].split(" ") for line, head in zip(lines, heads)]
            self.assertTrue(all(line.startswith(head) for line, head in zip(lines, heads)))
            self.assertEqual([word for row in rows for word in row], words)
            for number, line in enumerate(lines):
                self.assertTrue(len(line) <= width or len(rows[number]) == 1)
                if number + 1 < len(lines):
                    self.assertGreater(len(line) + 1 + len(rows[number + 1][0]), width)

    def test_by_name(self):
        self.assertEqual(filled(later="2", first="1", width=20, words=["a" * 15, "b" * 9]), ["1" + "a" * 15, "2" + "b" * 9])


class Usage(BenchCase):
    def words(self, bench, path, words):
        lines = usage(bench, path, 200)
        self.assertEqual(lines, [" ".join(words)])

    def test_nothing(self):
        self.words(a_bench(), ["root"], ["root"])

    def test_each_kind_of_option(self):
        for option, word in (
            (Option("flag"), "[--flag]"), (Option("flag", "f"), "[-f|--flag]"), (Option("flag", off=True), "[--[no-]flag]"),
            (Option("flag", "F", off=True), "[-F|--[no-]flag]"), (Option("count", "", "count"), "[--count..]"),
            (Option("count", "c", "count", off=True), "[-c|--[no-]count..]"), (Option("one", "", "one"), "[--one=WORD]"),
            (Option("one", "o", "one", "whole"), "[-o|--one=WHOLE]"), (Option("one", "o", "one", "whole", needed=True), "-o|--one=WHOLE"),
            (Option("one", "o", "one", "whole", default="3"), "[-o|--one=WHOLE]"), (Option("last", "l", "last", "pair"), "[-l|--last=PAIR]"),
            (Option("last", "", "last", needed=True), "--last=WORD"), (Option("each", "", "each"), "[--each=WORD..]"),
            (Option("each", "e", "each", "list", needed=True), "-e|--each=LIST.."), (Option("a-1", "", "count", "whole"), "[--a-1..]"),
        ):
            with self.subTest(repr(option)):
                self.words(a_bench([option]), ["root"], ["root", word])

    def test_the_makers_name_in_great_letters(self):
        bench = a_bench([Option("a", "", "one", "m-2x")], [Place("p-1q")], table={"m-2x": (str, "s"), "word": (str, "s")})
        self.words(bench, ["root"], ["root", "[--a=M-2X]", "P-1Q"])

    def test_each_kind_of_place(self):
        for many, word in (("one", "PLACE"), ("maybe", "[PLACE]"), ("some", "PLACE.."), ("any", "[PLACE..]")):
            self.words(a_bench([], [Place("place", many, "whole")]), ["root"], ["root", word])

    def test_in_order_with_commands(self):
        self.words(sample_bench(), ["root"], ["root", "[-v|--verbose..]", "[-a|--at=WORD]", "COMMAND"])
        self.words(sample_bench(), ["root", "move"], ["root", "move", "[-d|--dry]", "WHAT", "[TO]"])
        self.words(sample_bench(), ["root", "more"], ["root", "more", "[--all]", "COMMAND"])
        self.words(sample_bench(), ["root", "more", "up"], ["root", "more", "up", "--far=WORD"])
        self.words(sample_bench(), ["root", "more", "down"], ["root", "more", "down"])

    def test_further_lines(self):
        path = ["root", "copy"]
        self.assertEqual(usage(sample_bench(), path), [
            "root copy [-f|--[no-]force] [-l|--level=WHOLE] [-q|--[no-]quiet..]",
            "    [-t|--tag=WORD..] --as=PAIR [-F|--fast] [-s|--slow] FROM..",
        ])
        self.assertEqual(usage(sample_bench(), path, 72), usage(sample_bench(), path))
        self.assertEqual(usage(sample_bench(), path, width=20), [
            "root copy", "    [-f|--[no-]force]", "    [-l|--level=WHOLE]", "    [-q|--[no-]quiet..]", "    [-t|--tag=WORD..]",
            "    --as=PAIR", "    [-F|--fast]", "    [-s|--slow]", "    FROM..",
        ])
        self.assertEqual(path, ["root", "copy"])

    def test_a_path_wider_than_the_width(self):
        command = Command("abcdefghij", [Option("x", "x")])
        for name in ("a123456789", "b123456789"):
            command = Command(name, commands=[command])
        self.assertEqual(usage(bench_of(command), ["b123456789", "a123456789", "abcdefghij"], 20), [
            "b123456789", "    a123456789", "    abcdefghij", "    [-x|--x]",
        ])

    def test_a_new_list_each_time(self):
        usage(sample_bench(), ["root"]).clear()
        self.assertEqual(len(usage(sample_bench(), ["root"])), 1)

    def test_no_name(self):
        for path, who in MISSING:
            with self.subTest(path):
                before = list(path)
                self.assertEqual(refusal(self, NoName, usage, sample_bench(), path).who, who)
                self.assertEqual(path, before)

    def test_by_name(self):
        self.assertEqual(usage(width=20, path=["root", "more"], bench=sample_bench()), ["root more [--all]", "    COMMAND"])
        self.assertEqual(helped(width=20, path=["root", "more", "down"], bench=sample_bench()), ["root more down"])


class Helped(BenchCase):
    def helps(self, command, lines, *width):
        for _ in range(2):
            told = helped(bench_of(command), [command.name()], *width)
            self.assertIs(told.__class__, list)
            self.assertEqual(told, lines)
            told.append("more")

    def test_the_usage_alone(self):
        self.helps(Command("r"), ["r"])

    def test_an_about(self):
        self.helps(Command("r", about="Does it."), ["r", "", "Does it."])
        self.helps(Command("r", about="It does this and that and more."), ["r", "", "It does this and", "that and more."], 20)

    def test_options_alone(self):
        self.helps(Command("r", [Option("flag", "f", about="Says so."), Option("bare", about="More.")]), [
            "r [-f|--flag] [--bare]", "", "options:", "  -f, --flag  Says so.", "      --bare  More.",
        ])

    def test_labels_of_options(self):
        self.helps(Command("r", [
            Option("a", "", "one", "whole", needed=True), Option("b", "b", "each", "pair"), Option("c", "C", "count", off=True),
            Option("d", "", off=True), Option("e", "e", "last", "list"),
        ]), [
            "r --a=WHOLE [-b|--b=PAIR..] [-C|--[no-]c..] [--[no-]d] [-e|--e=LIST]", "", "options:",
            "      --a=WHOLE", "  -b, --b=PAIR", "  -C, --[no-]c", "      --[no-]d", "  -e, --e=LIST",
        ])

    def test_places_alone(self):
        self.helps(Command("r", [], [Place("what", about="This."), Place("to", "any", about="That.")]), [
            "r WHAT [TO..]", "", "places:", "  WHAT  This.", "  TO    That.",
        ])

    def test_commands_alone(self):
        self.helps(Command("r", commands=[Command("copy", about="Copies."), Command("mv"), Command("x", about="Any.")]), [
            "r COMMAND", "", "commands:", "  copy  Copies.", "  mv", "  x     Any.",
        ])

    def test_together_with_one_column(self):
        self.helps(Command("r", [Option("flag", "f", about="Says so.")], [Place("p", about="Where.")], about="All of it."), [
            "r [-f|--flag] P", "", "All of it.", "", "options:", "  -f, --flag  Says so.", "", "places:", "  P           Where.",
        ])
        self.helps(Command("r", [Option("f", "f", about="Says so.")], commands=[Command("abcdefghij", about="Where.")]), [
            "r [-f|--f] COMMAND", "", "options:", "  -f, --f     Says so.", "", "commands:", "  abcdefghij  Where.",
        ])

    def test_a_label_without_an_about(self):
        self.helps(Command("r", [Option("flag", "f")], [Place("p", about="Where.")]), [
            "r [-f|--flag] P", "", "options:", "  -f, --flag", "", "places:", "  P           Where.",
        ])

    def test_labels_of_twenty_and_of_twenty_one_signs(self):
        # "-a, --abcdefgh=WHOLE" has twenty signs, with one letter more twenty-one.
        self.helps(Command("r", [Option("abcdefgh", "a", "one", "whole", about="Just fits.")]), [
            "r [-a|--abcdefgh=WHOLE]", "", "options:", "  -a, --abcdefgh=WHOLE  Just fits.",
        ])
        self.helps(Command("r", [Option("abcdefghi", "a", "one", "whole", about="Does not."), Option("x", "x", about="Less.")]), [
            "r [-a|--abcdefghi=WHOLE] [-x|--x]", "", "options:", "  -a, --abcdefghi=WHOLE", "           Does not.", "  -x, --x  Less.",
        ])
        self.helps(Command("r", [Option("abcdefgh", "a", "one", "whole"), Option("abcdefghi", "", "one", "whole"), Option("x", about="Less.")]), [
            "r [-a|--abcdefgh=WHOLE] [--abcdefghi=WHOLE] [--x]", "", "options:", "  -a, --abcdefgh=WHOLE", "      --abcdefghi=WHOLE",
            "      --x" + " " * 15 + "Less.",
        ])

    def test_the_column_where_no_label_has_at_most_twenty(self):
        self.helps(Command("r", [Option("abcdefghij", "a", "one", "whole", about="It stands " + "far " * 4 + "out.")]), [
            "r", "    [-a|--abcdefghij=WHOLE]", "", "options:", "  -a, --abcdefghij=WHOLE", "    It stands far", "    far far far out.",
        ], 20)

    def test_abouts_of_several_lines(self):
        self.helps(Command("r", [Option("x", "x", about="one two three four five six")], [Place("p", about="one two three")]), [
            "r [-x|--x] P", "", "options:", "  -x, --x  one two", "           three four", "           five six",
            "", "places:", "  P        one two", "           three",
        ], 20 + 1)

    def test_a_width_at_which_the_column_and_ten_is_more(self):
        # The column is 24, so abouts are filled to 34.
        option = Option("abcdefgh", "a", "one", "whole", about="abcde fghi jklmn opqr stuvwxyz0123")
        lines = [
            "r", "    [-a|--abcdefgh=WHOLE]", "", "options:", "  -a, --abcdefgh=WHOLE  abcde fghi", " " * 24 + "jklmn opqr", " " * 24 + "stuvwxyz0123",
        ]
        for width in (20, 22):
            self.helps(Command("r", [option]), lines, width)
        self.helps(Command("r", [Option("abcdefgh", "a", "one", "whole", about="abcde fghij")]), [
            "r", "    [-a|--abcdefgh=WHOLE]", "", "options:", "  -a, --abcdefgh=WHOLE  abcde", " " * 24 + "fghij",
        ], 20)
        long = Option("abcdefghij", "b", "one", "whole", about="abcde fghi jklmn")
        self.helps(Command("r", [option, long]), [
            "r", "    [-a|--abcdefgh=WHOLE]", "    [-b|--abcdefghij=WHOLE]"] + lines[2:] + [
            "  -b, --abcdefghij=WHOLE", " " * 24 + "abcde fghi", " " * 24 + "jklmn",
        ], 20)
        self.helps(Command("r", [Option("abcdefgh", "a", "one", "whole", about="abcde fghi jklmn")]), [
            "r [-a|--abcdefgh=WHOLE]", "", "options:", "  -a, --abcdefgh=WHOLE  abcde fghi", " " * 24 + "jklmn",
        ], 35)
        self.helps(Command("r", [Option("abcdefgh", "a", "one", "whole", about="abcde fghi jklmn")]), [
            "r [-a|--abcdefgh=WHOLE]", "", "options:", "  -a, --abcdefgh=WHOLE  abcde fghi jklmn",
        ], 40)

    def test_the_width_is_seventy_two(self):
        about = "a" * 35 + " " + "b" * 36 + " c"
        self.helps(Command("r", about=about), ["r", "", "a" * 35 + " " + "b" * 36, "c"])
        self.helps(Command("r", about=about), ["r", "", "a" * 35 + " " + "b" * 36, "c"], 72)

    def test_beneath_the_root(self):
        copy = Command("copy", [Option("force", "f", off=True, about="Write over.")], [Place("from", "some", about="What is copied.")], about="Copies.")
        bench = bench_of(Command("tool", [Option("quiet", "q", "count", about="Less.")], commands=[copy], about="A tool."))
        self.assertEqual(helped(bench, ["tool", "copy"]), [
            "tool copy [-f|--[no-]force] FROM..", "", "Copies.", "", "options:", "  -f, --[no-]force  Write over.",
            "", "places:", "  FROM              What is copied.",
        ])
        self.assertEqual(helped(bench, ["tool"]), [
            "tool [-q|--quiet..] COMMAND", "", "A tool.", "", "options:", "  -q, --quiet  Less.", "", "commands:", "  copy         Copies.",
        ])

    def test_no_name(self):
        for path, who in MISSING:
            with self.subTest(path):
                self.assertEqual(refusal(self, NoName, helped, sample_bench(), path).who, who)

    def test_the_path_is_not_changed(self):
        path = ["root", "copy"]
        helped(sample_bench(), path, 30)
        self.assertEqual(path, ["root", "copy"])


if __name__ == "__main__":
    unittest.main()
