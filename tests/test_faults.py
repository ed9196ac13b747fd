import unittest

from benches import REFUSED_ENDS, REFUSED_WORDS, BenchCase, a_bench, asked_bench, begun, rows_let_by, sample_bench
from wordbench.answers import read
from wordbench.errors import Fault
from wordbench.faults import fault, right_words
from wordbench.options import Option, Place


class OfRows(BenchCase):
    def tells(self, bench, row, told):
        before = list(row)
        for _ in range(2):
            found = fault(bench, row)
            self.assertEqual(found, told)
            if told is not None:
                self.assertIs(found.__class__, tuple)
        self.assertEqual(row, before)

    def test_none_of_a_row_that_is_let_by(self):
        for row in rows_let_by():
            self.tells(sample_bench(), row, None)
        self.tells(a_bench(), [], None)

    def test_each_kind_of_a_word(self):
        for row, told in REFUSED_WORDS:
            with self.subTest(row):
                self.tells(sample_bench(), row, told)

    def test_each_kind_at_the_end(self):
        for row, told in REFUSED_ENDS:
            with self.subTest(row):
                self.tells(sample_bench(), row, told)
                self.assertEqual(told[0], len(row))

    def test_all_ten_kinds_are_here(self):
        kinds = {told[1] for _, told in REFUSED_WORDS + REFUSED_ENDS}
        self.assertEqual(kinds, set("unknown unclear unwanted again together novalue badvalue lacks spare unnamed".split()))

    def test_the_same_whatever_words_follow(self):
        for row, told in REFUSED_WORDS:
            for more in (["x"], ["--"], ["-z", ""], ["copy", "--as=:", "x"]):
                self.tells(sample_bench(), row + more, told)

    def test_it_is_what_read_refuses_with(self):
        for row, told in REFUSED_WORDS + REFUSED_ENDS:
            with self.assertRaises(Fault) as caught:
                read(sample_bench(), row)
            error = caught.exception
            self.assertEqual((error.at, error.__class__.__name__.lower(), error.who), told)

    def test_by_name(self):
        self.assertEqual(fault(row=["zz"], bench=sample_bench()), (0, "unknown", "zz"))
        self.assertEqual(right_words(row=["-v", "zz"], bench=sample_bench()), ["-v"])

    def test_no_default_is_handed_to_a_maker(self):
        bench, maker = asked_bench([Option("one", "o", "one", "m", default="d")], [Place("p", "any", "m")])
        fault(bench, ["a", "b"])
        self.assertEqual(maker.words, ["a", "b"])


class RightWords(BenchCase):
    def tells(self, bench, row, words):
        before = list(row)
        for _ in range(2):
            told = right_words(bench, row)
            self.assertIs(told.__class__, list)
            self.assertEqual(told, words)
            told.append("more")
        self.assertEqual(row, before)

    def test_all_where_none_is_refused(self):
        for row in rows_let_by() + [row for row, _ in REFUSED_ENDS]:
            self.tells(sample_bench(), row, list(row))

    def test_those_ahead_of_the_first_refused_one(self):
        for row, told in REFUSED_WORDS:
            self.tells(sample_bench(), row, row[:told[0]])
            self.tells(sample_bench(), row + ["-v", "copy"], row[:told[0]])

    def test_a_maker_that_changes_the_row(self):
        row = []

        def clearing(word):
            row.clear()
            return word

        bench = a_bench([], [Place("p", "any", "m")], table={"m": (clearing, "s")})
        row[:] = ["a", "b", "--zz"]
        self.assertEqual(right_words(bench, row), ["a", "b"])

    def test_the_longest_beginning(self):
        for row, told in REFUSED_WORDS:
            begun(sample_bench(), *row[:told[0]])
            with self.assertRaises(Fault):
                begun(sample_bench(), *row[:told[0] + 1])


if __name__ == "__main__":
    unittest.main()
