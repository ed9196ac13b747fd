import itertools
import unittest

from benches import REFUSED_ENDS, REFUSED_WORDS, BenchCase, a_bench, asked_bench, rows_let_by, sample_bench
from handed import BAD_NAMES, GOOD_NAMES, NO_TEXTS, refusal
from wordbench.answers import read
from wordbench.commands import Command
from wordbench.desk import Desk
from wordbench.errors import BadValue, Fault, Lacks, NoName, NoRow, Unclear, Unknown, Unnamed
from wordbench.onward import onward, rest
from wordbench.options import Option, Place
from wordbench.rowtexts import row_text, words_of
from wordbench.usage import usage


class DeskCase(BenchCase):
    def setUp(self):
        self.desk = Desk(sample_bench())

    def says(self, row, text):
        self.assertEqual(self.desk.say(row), text)

    def no_row(self, row):
        refusal(self, NoRow, self.desk.say, row)

    def no_name(self, row, who):
        self.assertEqual(refusal(self, NoName, self.desk.say, row).who, who)


class EachKind(DeskCase):
    def test_read(self):
        self.says("read -vv cop --as a:b x", "--verbose --verbose copy --as=a:b x")
        self.says("read more down", "more down")
        for row in rows_let_by():
            self.says(row_text(["read"] + row), str(read(sample_bench(), row)))

    def test_read_without_words(self):
        self.desk = Desk(a_bench())
        self.says("read", "")

    def test_keep_show_and_drop(self):
        self.says("keep a move x 5", "ok")
        self.says("show a", "move x 5")
        self.says("keep b -v more down", "ok")
        self.says("show b", "--verbose more down")
        self.says("show a", "move x 5")
        self.says("drop a", "ok")
        self.no_name("show a", "a")
        self.says("show b", "--verbose more down")
        self.says("keep a move y", "ok")
        self.says("show a", "move y")

    def test_keep_without_words(self):
        self.desk = Desk(a_bench())
        self.says("keep a", "ok")
        self.says("show a", "")

    def test_keep_in_the_place_of_an_elder_one(self):
        self.says("keep a move x", "ok")
        self.says("keep a more down", "ok")
        self.says("show a", "more down")
        self.says("kept", "a")

    def test_a_refused_keep_leaves_the_elder_one(self):
        self.says("keep a move x", "ok")
        refusal(self, Unknown, self.desk.say, "keep a zz")
        refusal(self, Lacks, self.desk.say, "keep a copy x")
        refusal(self, Unnamed, self.desk.say, "keep b")
        self.says("show a", "move x")
        self.says("kept", "a")

    def test_names_of_answers(self):
        for name in GOOD_NAMES:
            self.says(f"keep {name} more down", "ok")
        self.says("kept", " ".join(sorted(GOOD_NAMES)))

    def test_kept(self):
        self.says("kept", "")
        for name in ("b", "a-b", "ab", "a", "1", "kept"):
            self.says(f"keep {name} more down", "ok")
        self.says("kept", "1 a a-b ab b kept")
        self.says("drop ab", "ok")
        self.says("kept", "1 a a-b b kept")

    def test_same(self):
        for name, row in (("a", "move x"), ("b", "mov -- x"), ("c", "move x 7"), ("d", "move -d x")):
            self.says(f"keep {name} {row}", "ok")
        for one, two in itertools.product("abcd", repeat=2):
            self.says(f"same {one} {two}", "yes" if one == two or {one, two} == {"a", "b"} else "no")

    def test_same_of_answers_without_words(self):
        self.desk = Desk(a_bench([Option("f", "f")]))
        self.says("keep a", "ok")
        self.says("keep b --", "ok")
        self.says("keep c -f", "ok")
        self.says("same a b", "yes")
        self.says("same a c", "no")

    def test_times(self):
        self.says("keep a -vv copy --as=: -t x -ty -l3 -l4 a b c", "ok")
        for name, times in (("verbose", 2), ("at", 0), ("as", 1), ("tag", 2), ("level", 1), ("from", 3), ("force", 0)):
            self.says(f"times a {name}", str(times))
        for name in ("copy", "root", "what", "zz", "v", "a"):
            self.no_name(f"times a {name}", name)

    def test_times_of_the_last_command_that_has_it(self):
        self.desk = Desk(a_bench([Option("x", "x", "count")], commands=[Command("c", [Option("x", "x", "count")])]))
        self.says("keep a -xxx c -x", "ok")
        self.says("times a x", "1")
        self.says("keep a -xxx c", "ok")
        self.says("times a x", "0")

    def test_fault(self):
        for row in rows_let_by():
            self.says(row_text(["fault"] + row), "none")
        for row, (at, kind, who) in REFUSED_WORDS + REFUSED_ENDS:
            self.says(row_text(["fault"] + row), row_text([str(at), kind, who]))
        self.says("fault", "0 unnamed root")
        self.says("fault ''", "0 unknown ''")
        self.says("fault move a 5 'it''s'", "3 spare 'it''s'")
        self.says("fault move a 5 'a b'", "3 spare 'a b'")
        self.says("fault mo", "0 unclear mo")

    def test_rest(self):
        for row in rows_let_by():
            self.says(row_text(["rest"] + row), "")
        for row, _ in REFUSED_ENDS:
            self.says(row_text(["rest"] + row), row_text(rest(sample_bench(), row)))
        self.assertEqual(len(self.desk.say("rest").split()), 2)
        table = {"m": (str, ""), "n": (str, "it's a"), "word": (str, "w")}
        self.desk = Desk(a_bench([Option("x", "x", "one", "n", needed=True)], [Place("p", "one", "m"), Place("q", "one", "n")], table=table))
        self.says("rest", "'--x=it''s a' '' 'it''s a'")

    def test_on(self):
        self.says("on", "option verbose; option at; command copy; command move; command more")
        self.says("on -a", "value at")
        self.says("on more down", "divider ''; end ''")
        self.says("on more down --", "end ''")
        self.says("on copy", "; ".join([
            "option force", "off force", "option level", "option quiet", "off quiet", "option tag", "option as", "option fast", "option slow", "place from",
        ]))
        self.says("on move -d", "place what; divider ''")
        for row in rows_let_by() + [row for row, _ in REFUSED_ENDS]:
            told = [row_text([kind, who]) for kind, who, _ in onward(sample_bench(), row)]
            self.says(row_text(["on"] + row), "; ".join(told))

    def test_usage(self):
        for path in (["root"], ["root", "copy"], ["root", "move"], ["root", "more", "up"]):
            self.says(row_text(["usage"] + path), "\n".join(usage(sample_bench(), path, 72)))
        self.assertEqual(self.desk.say("usage root copy").count("\n"), 1)
        self.no_name("usage", "")
        self.no_name("usage copy", "copy")
        self.no_name("usage Root copy", "Root")
        self.no_name("usage '' copy", "")
        self.no_name("usage root zz yy", "zz")

    def test_words_with_blanks_and_quotes_and_no_signs(self):
        self.says("keep a '--at=it''s me' move '' 5", "ok")
        self.says("show a", "'--at=it''s me' move '' 5")
        self.says("read --at '' move 'a b'", "--at= move 'a b'")
        self.says("read move -- ''''", "move ''''")

    def test_a_told_text_may_be_said_again(self):
        for row in rows_let_by():
            text = self.desk.say(row_text(["read"] + row))
            self.says(f"read {text}", text)
            self.assertEqual(words_of(text), read(sample_bench(), row).written())


class Refused(DeskCase):
    def test_rows_of_no_such_kind(self):
        for row in (
            "", "''", "reads", "rea", "r", "READ", "Read x", "keeps a", "help", "x", "''''", "--", "-v more down", "copy", "end", "ons", "path", "words a",
            "'read '", "same", "none",
        ):
            with self.subTest(row):
                self.no_row(row)

    def test_a_word_too_many_or_too_few(self):
        self.says("keep a more down", "ok")
        for row in (
            "keep", "drop", "drop a a", "kept a", "kept ''", "show", "show a a", "same", "same a", "same a a a", "times", "times a", "times a from from",
        ):
            with self.subTest(row):
                self.no_row(row)
        self.says("kept", "a")

    def test_names_that_are_no_names(self):
        self.says("keep a move x", "ok")
        for name in BAD_NAMES:
            word = row_text([name])
            for row in (f"keep {word} move x", f"drop {word}", f"show {word}", f"same a {word}", f"same {word} a", f"times a {word}", f"times {word} what"):
                with self.subTest(row):
                    self.no_row(row)
        self.says("kept", "a")

    def test_texts_that_are_written_of_no_row(self):
        for row in (" ", "read ", " read", "read  x", "'read'", "read 'x'", "read '", "read 'a b", "read it's", "read 'a'b", "kept ", "read ''x''", "read 'x''"):
            with self.subTest(row):
                self.no_row(row)

    def test_things_that_are_no_texts(self):
        for row in NO_TEXTS + [["read"], ("kept",), [["kept"]], {"kept": 1}, b"kept"]:
            with self.subTest(repr(row.__class__)):
                self.no_row(row)

    def test_no_row_ahead_of_no_name(self):
        for row in ("show b c", "drop b c", "same b", "same b c d", "same b -x", "same b ''", "times b", "times b -x", "times b no-x", "show B"):
            with self.subTest(row):
                self.no_row(row)

    def test_no_name_from_the_left(self):
        self.says("keep a move x", "ok")
        for row, who in (
            ("drop b", "b"), ("show b", "b"), ("same b c", "b"), ("same a c", "c"), ("same c a", "c"), ("same c b", "c"), ("times b what", "b"), ("times b zz", "b"),
            ("times zz zz", "zz"), ("times a b", "b"), ("show aa", "aa"),
        ):
            with self.subTest(row):
                self.no_name(row, who)
        self.says("kept", "a")
        self.says("drop a", "ok")
        self.no_name("drop a", "a")

    def test_at_is_counted_within_the_words(self):
        for verb in ("read", "keep name", "rest", "on"):
            for row, (at, kind, who) in REFUSED_WORDS:
                with self.assertRaises(Fault) as caught:
                    self.desk.say(f"{verb} {row_text(row)}")
                error = caught.exception
                self.assertEqual((error.at, error.__class__.__name__.lower(), error.who), (at, kind, who))
        for verb in ("read", "keep name"):
            for row, (at, kind, who) in REFUSED_ENDS:
                with self.assertRaises(Fault) as caught:
                    self.desk.say(row_text(verb.split() + row))
                self.assertEqual((caught.exception.at, caught.exception.who), (at, who))
        self.assertEqual(refusal(self, Unclear, self.desk.say, "read -v mo").some, ["more", "move"])
        self.assertEqual(refusal(self, BadValue, self.desk.say, "keep a move x y").word, "y")
        self.says("kept", "")

    def test_refused_rows_change_nothing(self):
        self.says("keep a move x", "ok")
        for row in ("drop b", "keep a zz", "keep b zz", "keep B move x", "drop a b", "zz", None, 5):
            with self.assertRaises(ValueError):
                self.desk.say(row)
        self.says("kept", "a")
        self.says("show a", "move x")


class Asking(DeskCase):
    def setUp(self):
        bench, self.maker = asked_bench([Option("one", "o", "one", "m", default="d"), Option("two", "t", "last", "m")], [Place("p", "any", "m")])
        self.desk = Desk(bench)

    def asks(self, row, words):
        self.maker.words.clear()
        try:
            self.desk.say(row)
        except Fault:
            pass
        self.assertEqual(self.maker.words, words)

    def test_read_and_keep_ask_as_read_does(self):
        for verb in ("read", "keep a"):
            self.asks(f"{verb} x -ty z -t w", ["x", "y", "z", "w", "d"])
            self.asks(f"{verb} -oa b", ["a", "b"])
            self.asks(f"{verb} x bad y", ["x", "bad"])
            self.asks(f"{verb} x -t", ["x"])
            self.asks(verb, ["d"])

    def test_kept_show_same_and_times_ask_none(self):
        self.asks("keep a x -ty", ["x", "y", "d"])
        self.asks("keep b", ["d"])
        for row in ("kept", "show a", "show b", "same a b", "same a a", "times a p", "times b one", "drop a"):
            self.asks(row, [])


class TwoDesks(unittest.TestCase):
    def test_of_one_bench_know_nothing_of_one_another(self):
        bench = sample_bench()
        first, second = Desk(bench), Desk(bench)
        first.say("keep a move x")
        second.say("keep a more down")
        second.say("keep b more down")
        self.assertEqual([first.say("kept"), second.say("kept")], ["a", "a b"])
        self.assertEqual([first.say("show a"), second.say("show a")], ["move x", "more down"])
        second.say("drop a")
        self.assertEqual(first.say("show a"), "move x")
        self.assertEqual(refusal(self, NoName, first.say, "show b").who, "b")

    def test_by_name(self):
        desk = Desk(bench=sample_bench())
        self.assertEqual(desk.say(row="read more down"), "more down")
        self.assertIn("say", vars(Desk))


if __name__ == "__main__":
    unittest.main()
