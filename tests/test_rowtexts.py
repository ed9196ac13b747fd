import itertools
import unittest

from handed import NO_TEXTS, refusal
from wordbench.errors import NoRow
from wordbench.rowtexts import row_text, words_of

# Each word and how it is written.
WRITTEN = [
    ("a", "a"), ("-", "-"), ("--", "--"), ("--a=b", "--a=b"), ("-abc", "-abc"), ("\"", "\""), ("a\\", "a\\"),
    (";", ";"), ("a" * 60, "a" * 60),
    ("", "''"), (" ", "' '"), ("  ", "'  '"), ("a b", "'a b'"), (" a", "' a'"), ("a ", "'a '"), ("a  b", "'a  b'"),
    ("'", "''''"), ("''", "''''''"), ("' '", "''' '''"), ("a'b", "'a''b'"), ("'a", "'''a'"), ("a'", "'a'''"),
    ("'a'", "'''a'''"), ("a' b", "'a'' b'"), ("a 'b", "'a ''b'"), ("--a= '", "'--a= '''"), ("'" * 60, "'" * 122),
    (" " * 60, "'" + " " * 60 + "'"),
]
# The texts that are written of no row, by what is wrong of them.
WRONG = {
    "a blank first": [" a", " 'a b'", " ''", " a b"],
    "a blank last": ["a ", "'a b' ", "'' ", "a b "],
    "blanks alone": [" ", "  ", "   "],
    "two blanks beside one another": ["a  b", "''  ''", "'a b'  c", "a b  c", "a   b"],
    "not closed": ["'", "'a", "'a b", "a 'b", "a '", "'''", "'a''", "'a b' '", "'a' b'", "'''''"],
    "between two of them without need": ["'a'", "a 'b'", "'a' b", "a 'b' c", "'--a=b'", "'-'", "'a' 'b'"],
    "a single one within": ["'a'b c'", "'a b'c d'", "'a 'b'", "'a'b'c'", "' ' '", "'a'b'"],
    "a sign straight behind a closing one": ["'a b'c", "''a", "'a b'-", "'a b'c d", "''''a", "x 'a b'c"],
    "within a word that doesn't begin with one": ["a'", "a'b", "a''", "a''b", "a'b'", "a' '", "a'b c'", "b a''''", "a'b'c"],
}


class RowText(unittest.TestCase):
    def test_no_words(self):
        self.assertEqual(row_text([]), "")

    def test_one_word(self):
        for word, text in WRITTEN:
            with self.subTest(word):
                self.assertEqual(row_text([word]), text)

    def test_at_the_beginning_within_and_at_the_end(self):
        for word, text in WRITTEN:
            with self.subTest(word):
                self.assertEqual(row_text([word, "x", "y"]), f"{text} x y")
                self.assertEqual(row_text(["x", word, "y"]), f"x {text} y")
                self.assertEqual(row_text(["x", "y", word]), f"x y {text}")

    def test_two_of_them_beside_one_another(self):
        for (first, first_text), (second, second_text) in itertools.product(WRITTEN, repeat=2):
            self.assertEqual(row_text([first, second]), f"{first_text} {second_text}")

    def test_forty_words(self):
        self.assertEqual(row_text(["", "a"] * 20), " ".join(["''", "a"] * 20))

    def test_the_words_handed_in_stay(self):
        words = ["a b", "", "'"]
        row_text(words)
        self.assertEqual(words, ["a b", "", "'"])

    def test_by_name_and_asked_again(self):
        words = ["a b", "c"]
        self.assertEqual([row_text(words=words), row_text(words)], ["'a b' c"] * 2)


class WordsOf(unittest.TestCase):
    def read(self, text, words):
        answer = words_of(text)
        self.assertIs(answer.__class__, list)
        self.assertEqual(answer, words)

    def test_no_words(self):
        self.read("", [])

    def test_one_word(self):
        for word, text in WRITTEN:
            with self.subTest(text):
                self.read(text, [word])

    def test_at_the_beginning_within_and_at_the_end(self):
        for word, text in WRITTEN:
            with self.subTest(text):
                self.read(f"{text} x y", [word, "x", "y"])
                self.read(f"x {text} y", ["x", word, "y"])
                self.read(f"x y {text}", ["x", "y", word])

    def test_two_of_them_beside_one_another(self):
        for (first, first_text), (second, second_text) in itertools.product(WRITTEN, repeat=2):
            self.read(f"{first_text} {second_text}", [first, second])

    def test_each_row_is_read_back(self):
        words = [word for word, text in WRITTEN]
        for row in [words, words[::-1], words + words[:12], [""] * 40, ["'"] * 40, [" "] * 40, ["a" * 60] * 40]:
            self.read(row_text(row), row)

    def test_wrong_texts(self):
        for kind, texts in WRONG.items():
            for text in texts:
                with self.subTest(kind, text=text):
                    refusal(self, NoRow, words_of, text)

    def test_every_text_of_few_signs(self):
        """Just what is written of some row is read, as that row; no two rows are written alike."""
        signs, most = " 'a", 7
        words = ["".join(word) for many in range(most + 1) for word in itertools.product(signs, repeat=many)]
        words = [word for word in words if len(row_text([word])) <= most]
        rows = {"": []}
        for many in range(1, 5):
            few = [word for word in words if len(row_text([word])) <= most - 2 * (many - 1)]
            for row in itertools.product(few, repeat=many):
                text = row_text(list(row))
                if len(text) <= most:
                    self.assertNotIn(text, rows)
                    rows[text] = list(row)
        for many in range(most + 1):
            for text in map("".join, itertools.product(signs, repeat=many)):
                if text in rows:
                    self.assertEqual(words_of(text), rows[text], text)
                else:
                    with self.assertRaises(NoRow, msg=text):
                        words_of(text)

    def test_no_texts(self):
        for value in NO_TEXTS + [b"a b", ["a", "b"], ("a", "b"), bytearray(b"a")]:
            with self.subTest(str(value.__class__)):
                refusal(self, NoRow, words_of, value)

    def test_the_told_list_changed(self):
        for text, words in (("", []), ("a 'b c'", ["a", "b c"])):
            with self.subTest(text):
                words_of(text).append("x")
                words_of(text).clear()
                self.read(text, words)

    def test_by_name(self):
        self.assertEqual(words_of(text="'a b' c"), ["a b", "c"])
        refusal(self, NoRow, words_of, text=" ")


if __name__ == "__main__":
    unittest.main()
