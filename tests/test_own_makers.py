import itertools
import unittest

from handed import refusal
from wordbench.errors import BenchError, Unmade
from wordbench.makers import Makers, one_of, own_makers
from wordbench.words import kind_of

NAMES = ["based", "list", "pair", "whole", "word", "yesno"]


class MakerTest(unittest.TestCase):
    def makes(self, maker, word, value):
        answer = maker(word)
        self.assertIs(answer.__class__, value.__class__)
        self.assertEqual(answer, value)

    def refuses(self, maker, word):
        error = refusal(self, Unmade, maker, word)
        self.assertIsInstance(error, ValueError)
        self.assertNotIsInstance(error, BenchError)
        self.assertIs(error.why.__class__, str)


class Own(MakerTest):
    name = None

    def tells(self, word, value):
        maker, sample = own_makers()[self.name]
        self.makes(maker, word, value)
        self.makes(maker, word, value)
        self.makes(lambda each: Makers(own_makers()).made(self.name, each), word, value)

    def unmade(self, word):
        maker, sample = own_makers()[self.name]
        self.refuses(maker, word)
        self.refuses(lambda each: Makers(own_makers()).made(self.name, each), word)

    def unmade_each(self, words):
        for word in words:
            with self.subTest(word):
                self.unmade(word)


class Table(unittest.TestCase):
    def test_the_six_names(self):
        self.assertIs(own_makers().__class__, dict)
        self.assertEqual(sorted(own_makers()), NAMES)

    def test_each_with_its_sample(self):
        for name, entry in own_makers().items():
            with self.subTest(name):
                self.assertIs(entry.__class__, tuple)
                maker, sample = entry
                self.assertEqual(kind_of(sample), "plain")
                maker(sample)

    def test_a_new_dict_each_time(self):
        first = own_makers()
        del first["word"]
        first["whole"] = None
        second = own_makers()
        second.clear()
        self.assertEqual(sorted(own_makers()), NAMES)
        self.assertEqual(own_makers()["whole"][0]("5"), 5)

    def test_all_six_make_makers(self):
        makers = Makers(own_makers())
        self.assertEqual(makers.names(), NAMES)
        for name, (maker, sample) in own_makers().items():
            with self.subTest(name):
                self.assertEqual(makers.sample(name), sample)
                self.assertEqual(makers.made(name, sample), maker(sample))

    def test_beside_a_maker_of_ones_own(self):
        makers = Makers({"color": (one_of(["red", "green"]), "r"), **own_makers()})
        self.assertEqual(makers.names(), sorted(NAMES + ["color"]))
        self.assertEqual(makers.made("color", "g"), "green")


class Word(Own):
    name = "word"

    def test_the_word_itself(self):
        for word in ("", " ", "a", "-", "--", "--a=b", "'", "a b ", "5", "a" * 60):
            with self.subTest(word):
                self.tells(word, word)


class Whole(Own):
    name = "whole"

    def test_nought(self):
        self.tells("0", 0)

    def test_above_and_below(self):
        for number in (1, 9, 10, 100, 7123, -1, -9, -10, -100, -7123):
            with self.subTest(number):
                self.tells(str(number), number)

    def test_sixty_figures(self):
        for figures in ("1" + "0" * 59, "9" * 60, "1234567890" * 6):
            self.tells(figures, int(figures))
            self.tells("-" + figures, -int(figures))
        self.tells("9" * 59, 10 ** 59 - 1)

    def test_sixty_one_figures(self):
        self.unmade_each(["1" + "0" * 60, "9" * 61, "-1" + "0" * 60, "-" + "9" * 61, "0" * 61])

    def test_noughts_ahead(self):
        self.unmade_each(["-0", "00", "01", "007", "-01", "-00", "0" * 60, "-" + "0" * 59 + "1"])

    def test_otherwise_written(self):
        self.unmade_each(["+1", "+0", "-+1", "+-1", "--1", "1-", "1_0", "_1", "1_", "1_000", "-1_0"])
        self.unmade_each([" 1", "1 ", " 1 ", "- 1", "1 0", " ", "1.0", "1.", "1e3", "0x1", "0b1", "1,000", "a", "1a", "a1"])

    def test_no_figures(self):
        self.unmade_each(["", "-", "--", "+"])

    def test_every_word_of_few_signs(self):
        numbers = {str(number): number for number in range(-999, 10000)}
        maker = own_makers()["whole"][0]
        for many in range(5):
            for word in map("".join, itertools.product("-+ _019", repeat=many)):
                if word in numbers:
                    self.makes(maker, word, numbers[word])
                else:
                    self.refuses(maker, word)

    def test_an_int_and_no_truth(self):
        maker = own_makers()["whole"][0]
        self.assertIs(maker("0").__class__, int)
        self.assertIs(maker("1").__class__, int)


class Based(Own):
    name = "based"

    def test_each_beginning(self):
        self.tells("0b101", 5)
        self.tells("0o17", 15)
        self.tells("0x1f", 31)
        self.tells("0xabcdef", 0xabcdef)
        self.tells("0x123456789", 0x123456789)
        self.tells("0o1234567", 0o1234567)

    def test_one_figure(self):
        for beginning, figures in (("0b", "01"), ("0o", "01234567"), ("0x", "0123456789abcdef")):
            for number, figure in enumerate(figures):
                with self.subTest(beginning + figure):
                    self.tells(beginning + figure, number)

    def test_fifty_figures(self):
        self.tells("0b" + "1" * 50, 2 ** 50 - 1)
        self.tells("0o" + "7" * 50, 8 ** 50 - 1)
        self.tells("0x" + "f" * 50, 16 ** 50 - 1)
        self.tells("0x" + "0" * 49 + "1", 1)

    def test_fifty_one_figures(self):
        self.unmade_each(["0b" + "1" * 51, "0o" + "7" * 51, "0x" + "f" * 51, "0x" + "0" * 50 + "1", "0b" + "0" * 51])

    def test_no_figures(self):
        self.unmade_each(["0b", "0o", "0x", "0", "", "b", "x1", "-", " "])

    def test_figures_that_are_not_of_the_base(self):
        self.unmade_each(["0b2", "0b12", "0b21", "0b9", "0ba", "0o8", "0o18", "0o81", "0o9", "0oa", "0xg", "0x1g", "0xg1"])

    def test_great_letters(self):
        self.unmade_each(["0B1", "0O1", "0X1", "0xA", "0xaF", "0xFa", "0XF", "0x1F"])

    def test_a_sign_ahead_or_within(self):
        self.unmade_each(["-0b1", "-0x1", "0x-1", "0b-1", "+0x1", "0x+1", "0o+1", "--0x1"])

    def test_underscores_blanks_and_beginnings_within(self):
        self.unmade_each(["0x_1", "0x1_0", "0x1_", "0b_1", "0b1_1", "0x 1", "0x1 ", " 0x1", "0x1 0", "0b 1"])
        self.unmade_each(["0b0b1", "0x0x1", "0o0o7", "10", "1x1", "00x1", "0d1", "0y1", "1b1", "xb1"])

    def test_a_beginning_of_another_base_may_be_figures(self):
        self.tells("0x0b1", 0x0b1)

    def test_all_noughts(self):
        for beginning in ("0b", "0o", "0x"):
            for many in (1, 2, 49, 50):
                with self.subTest(beginning=beginning, many=many):
                    self.tells(beginning + "0" * many, 0)

    def test_every_word_of_few_figures(self):
        maker = own_makers()["based"][0]
        for beginning, figures in (("0b", "01"), ("0o", "01234567"), ("0x", "0123456789abcdef")):
            for word in map("".join, itertools.product("01278 9afgAF_-+", repeat=2)):
                if set(word) <= set(figures):
                    first, second = figures.index(word[0]), figures.index(word[1])
                    self.makes(maker, beginning + word, first * len(figures) + second)
                else:
                    self.refuses(maker, beginning + word)


class YesNo(Own):
    name = "yesno"

    def test_both(self):
        self.tells("yes", True)
        self.tells("no", False)

    def test_anything_else(self):
        self.unmade_each(["Yes", "YES", "No", "NO", "yes ", " yes", "no ", " no", "", " ", "y", "n", "ye", "yess", "nono"])
        self.unmade_each(["true", "True", "False", "1", "0", "-", "yesno", "yes no", "es", "o", "'yes'"])


class Pair(Own):
    name = "pair"

    def test_one(self):
        self.tells("a:b", ("a", "b"))
        self.tells("a b: c", ("a b", " c"))
        self.tells("--a=b:c", ("--a=b", "c"))

    def test_several(self):
        self.tells("a:b:c", ("a:b", "c"))
        self.tells("a::b", ("a:", "b"))
        self.tells("::", (":", ""))
        self.tells(":a:", (":a", ""))

    def test_at_the_beginning_or_the_end(self):
        self.tells(":b", ("", "b"))
        self.tells("a:", ("a", ""))
        self.tells(":", ("", ""))

    def test_none(self):
        self.unmade_each(["", "a", "a b", "a=b", "a;b", "-", " ", "a" * 60])


class ListMaker(Own):
    name = "list"

    def test_the_word_without_signs(self):
        self.tells("", ())

    def test_without_a_comma(self):
        for word in ("a", " ", "-", "a b", "a;b", "a" * 60):
            with self.subTest(word):
                self.tells(word, (word,))

    def test_between_commas(self):
        self.tells("a,b", ("a", "b"))
        self.tells("a, b ,c", ("a", " b ", "c"))

    def test_commas_at_the_ends(self):
        self.tells(",a", ("", "a"))
        self.tells("a,", ("a", ""))
        self.tells(",a,", ("", "a", ""))
        self.tells(",", ("", ""))

    def test_commas_beside_one_another(self):
        self.tells("a,,b", ("a", "", "b"))
        self.tells(",,", ("", "", ""))
        self.tells("," * 60, ("",) * 61)


class OneOf(MakerTest):
    words = ["red", "green", "gray", "re", "blue"]

    def test_a_word_itself(self):
        for word in self.words:
            with self.subTest(word):
                self.makes(one_of(self.words), word, word)

    def test_a_beginning_that_means_one(self):
        maker = one_of(self.words)
        for beginning, word in (("b", "blue"), ("blu", "blue"), ("gre", "green"), ("gra", "gray")):
            with self.subTest(beginning):
                self.makes(maker, beginning, word)

    def test_a_beginning_that_means_several(self):
        maker = one_of(self.words)
        for beginning in ("g", "gr", "r"):
            with self.subTest(beginning):
                self.refuses(maker, beginning)

    def test_a_beginning_that_means_none(self):
        maker = one_of(self.words)
        for word in ("x", "bluer", "Blue", "lue", " blue", "blue ", "-", "--", " "):
            with self.subTest(word):
                self.refuses(maker, word)

    def test_the_word_without_signs(self):
        self.refuses(one_of(self.words), "")
        self.refuses(one_of(["a"]), "")

    def test_a_word_that_is_a_beginning_of_another(self):
        self.makes(one_of(self.words), "re", "re")
        self.makes(one_of(["red", "re"]), "red", "red")
        self.refuses(one_of(["red", "re"]), "r")

    def test_one_word(self):
        self.makes(one_of(["--a b'"]), "-", "--a b'")
        self.refuses(one_of(["a"]), "b")

    def test_twelve_words(self):
        maker = one_of([f"{letter}x" for letter in "abcdefghijkl"])
        for letter in "abcdefghijkl":
            self.makes(maker, letter, letter + "x")

    def test_the_list_handed_in_stays(self):
        words = ["b", "ab", "a"]
        maker = one_of(words)
        maker("a"), maker("ab"), self.refuses(maker, "c")
        self.assertEqual(words, ["b", "ab", "a"])

    def test_the_list_changed_behind_the_call(self):
        words = ["red", "green"]
        maker = one_of(words)
        words.append("rose")
        words[1] = "blue"
        self.makes(maker, "r", "red")
        self.makes(maker, "g", "green")
        self.refuses(maker, "b")
        words.clear()
        self.makes(maker, "r", "red")

    def test_two_by_turns(self):
        first, second = one_of(["red", "blue"]), one_of(["rose", "green"])
        for time in range(2):
            self.makes(first, "r", "red")
            self.makes(second, "r", "rose")
            self.makes(first, "b", "blue")
            self.refuses(second, "b")
            self.refuses(first, "g")
            self.makes(second, "g", "green")

    def test_by_name_and_asked_again(self):
        maker = one_of(words=["red"])
        self.makes(maker, "r", "red")
        self.makes(maker, "r", "red")
        self.refuses(maker, "x")
        self.refuses(maker, "x")


if __name__ == "__main__":
    unittest.main()
