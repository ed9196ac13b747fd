import itertools
import unittest

from handed import refusal
from wordbench.errors import NoName
from wordbench.names import least_beginning, meant

NAMES = ["level", "list", "lists", "no-level", "quiet", "l2"]


class Meant(unittest.TestCase):
    def means(self, names, beginning, some):
        answer = meant(names, beginning)
        self.assertIs(answer.__class__, list)
        self.assertEqual(answer, some)

    def test_the_name_that_it_is(self):
        self.means(NAMES, "level", ["level"])
        self.means(NAMES, "no-level", ["no-level"])

    def test_the_name_that_it_is_while_others_begin_with_it(self):
        self.means(NAMES, "list", ["list"])
        self.means(["abc", "ab", "a"], "a", ["a"])
        self.means(["abc", "ab", "a"], "ab", ["ab"])

    def test_several_sorted(self):
        self.means(NAMES, "l", ["l2", "level", "list", "lists"])
        self.means(NAMES, "li", ["list", "lists"])

    def test_in_whatever_order_they_are_handed_in(self):
        for names in itertools.permutations(["b", "ab", "aB", "a-", "a1"]):
            with self.subTest(names):
                self.means(list(names), "a", ["a-", "a1", "aB", "ab"])

    def test_one(self):
        self.means(NAMES, "q", ["quiet"])
        self.means(NAMES, "lists", ["lists"])
        self.means(NAMES, "n", ["no-level"])
        self.means(NAMES, "le", ["level"])

    def test_none(self):
        for beginning in ("x", "levels", "evel", "L", "quiet ", " ", "-", "level2", "no-level-"):
            with self.subTest(beginning):
                self.means(NAMES, beginning, [])

    def test_a_beginning_without_signs(self):
        self.means(NAMES, "", [])
        self.means(["a"], "", [])

    def test_no_names(self):
        self.means([], "a", [])
        self.means([], "", [])

    def test_the_told_list_changed(self):
        for beginning in ("l", "level", "q", "x", ""):
            with self.subTest(beginning):
                first = meant(NAMES, beginning)
                before = list(first)
                first.append("z")
                first.reverse()
                self.means(NAMES, beginning, before)

    def test_the_names_handed_in_stay(self):
        names = ["c", "ab", "a", "ac"]
        for beginning in ("a", "ab", "c", "x", ""):
            meant(names, beginning)
        self.assertEqual(names, ["c", "ab", "a", "ac"])

    def test_names_changed_behind_the_call(self):
        names = ["ab", "ac"]
        answer = meant(names, "a")
        names.clear()
        self.assertEqual(answer, ["ab", "ac"])
        self.means(names, "a", [])

    def test_by_name(self):
        self.assertEqual(meant(beginning="li", names=NAMES), ["list", "lists"])


class LeastBeginning(unittest.TestCase):
    def least(self, names, name, beginning):
        self.assertEqual(least_beginning(names, name), beginning)

    def refused(self, names, name):
        self.assertEqual(refusal(self, NoName, least_beginning, names, name).who, name)

    def test_a_name_that_is_a_beginning_of_another(self):
        self.least(NAMES, "list", "list")
        self.least(NAMES, "lists", "lists")
        self.least(["abc", "a"], "a", "a")
        self.least(["abc", "a"], "abc", "ab")

    def test_a_name_that_begins_like_others(self):
        self.least(NAMES, "level", "le")
        self.least(NAMES, "l2", "l2")
        self.least(["abcd", "abce"], "abcd", "abcd")
        self.least(["abcde", "abcef", "b"], "abcde", "abcd")

    def test_one_that_begins_like_none(self):
        self.least(NAMES, "quiet", "q")
        self.least(NAMES, "no-level", "n")

    def test_a_single_name(self):
        self.least(["quiet"], "quiet", "q")

    def test_a_name_of_one_sign(self):
        self.least(["q"], "q", "q")
        self.least(["q", "b"], "q", "q")
        self.least(["quiet", "q"], "q", "q")
        self.least(["quiet", "q"], "quiet", "qu")

    def test_it_means_just_the_name_and_none_shorter_does(self):
        pool = ["a", "ab", "abc", "abd", "b", "ba", "-a"]
        for many in range(1, len(pool) + 1):
            for names in itertools.permutations(pool, many) if many < 4 else itertools.combinations(pool, many):
                for name in names:
                    least = least_beginning(list(names), name)
                    shorter = [meant(names, name[:length]) for length in range(len(least))]
                    with self.subTest(names=names, name=name):
                        self.assertTrue(name.startswith(least))
                        self.assertEqual(meant(names, least), [name])
                        self.assertNotIn([name], shorter)

    def test_none_of_the_names(self):
        for name in ("q", "quie", "quiets", "", "x", "Quiet", " quiet", "li"):
            with self.subTest(name):
                self.refused(NAMES, name)

    def test_no_names(self):
        self.refused([], "a")
        self.refused([], "")

    def test_the_names_handed_in_stay(self):
        names = ["c", "ab", "a", "ac"]
        for name in list(names):
            least_beginning(names, name)
        self.refused(names, "x")
        self.assertEqual(names, ["c", "ab", "a", "ac"])

    def test_by_name_and_asked_again(self):
        self.assertEqual(least_beginning(name="level", names=NAMES), "le")
        self.least(NAMES, "level", "le")


if __name__ == "__main__":
    unittest.main()
