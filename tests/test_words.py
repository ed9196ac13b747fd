import itertools
import unittest

from wordbench.words import kind_of, long_parts

LONGS = ["---", "--=", "-- ", "--a", "----", "--a=b", "--=--", "--no-a", "--'", "--" + "a" * 58, "-" * 60, "--" + "=" * 58]
SHORTS = ["-=", "- ", "-a", "-A", "-0", "-'", "-a-", "-a--", "-a=b", "-ab", "-=-", "-~", "-" + "a" * 59, "-a" + "-" * 58]
PLAINS = ["", "-", "a", " ", " -", " --", " --a", "a-", "a--", "=--", "=", "=-a", "'--'", "a" * 60, " " * 60, "=" + "-" * 59]


class KindOf(unittest.TestCase):
    def all_are(self, words, kind):
        for word in words:
            with self.subTest(word):
                self.assertEqual(kind_of(word), kind)

    def test_the_divider(self):
        self.all_are(["--"], "divider")

    def test_long(self):
        self.all_are(LONGS, "long")

    def test_shorts(self):
        self.all_are(SHORTS, "shorts")

    def test_plain(self):
        self.all_are(PLAINS, "plain")

    def test_every_word_of_few_signs(self):
        for many in range(5):
            for signs in itertools.product("-=a ", repeat=many):
                word = "".join(signs)
                kind = "plain"
                if signs[:1] == ("-",) and many > 1:
                    kind = "shorts" if signs[1] != "-" else "long" if many > 2 else "divider"
                with self.subTest(word):
                    self.assertEqual(kind_of(word), kind)

    def test_by_name_and_asked_again(self):
        self.assertEqual([kind_of(word="--a"), kind_of(word="--a"), kind_of("--a")], ["long"] * 3)


class LongParts(unittest.TestCase):
    def parts(self, word, name, value):
        answer = long_parts(word)
        self.assertIs(answer.__class__, tuple)
        self.assertEqual(answer, (name, value))

    def test_a_name_alone(self):
        self.parts("--a", "a", None)
        self.parts("--no-level", "no-level", None)
        self.parts("-- ", " ", None)
        self.parts("--" + "a" * 58, "a" * 58, None)

    def test_a_name_and_a_value(self):
        self.parts("--a=b", "a", "b")
        self.parts("--level= 3 ", "level", " 3 ")
        self.parts("--a=--b", "a", "--b")
        self.parts("--a='", "a", "'")

    def test_a_value_without_signs(self):
        self.parts("--a=", "a", "")

    def test_a_value_with_the_sign_in_it(self):
        self.parts("--a=b=c", "a", "b=c")
        self.parts("--a==", "a", "=")
        self.parts("--a==b=", "a", "=b=")

    def test_a_name_without_signs(self):
        self.parts("--=", "", "")
        self.parts("--=b", "", "b")
        self.parts("--==", "", "=")

    def test_more_than_two_at_the_beginning(self):
        self.parts("---", "-", None)
        self.parts("----", "--", None)
        self.parts("---a=b", "-a", "b")
        self.parts("---=", "-", "")

    def test_put_together_it_is_the_word(self):
        for word in LONGS:
            with self.subTest(word):
                name, value = long_parts(word)
                self.assertNotIn("=", name)
                self.assertEqual("--" + name + ("" if value is None else "=" + value), word)

    def test_by_name_and_asked_again(self):
        self.assertEqual([long_parts(word="--a=b"), long_parts("--a=b")], [("a", "b")] * 2)


if __name__ == "__main__":
    unittest.main()
