"""What several test files hand in."""

import string


class Odd:
    """An object that must be refused by its kind: any use of it raises."""

    def __eq__(self, other):
        raise AssertionError("compared")

    def __len__(self):
        raise AssertionError("measured")

    def __iter__(self):
        raise AssertionError("iterated")

    def __bool__(self):
        raise AssertionError("asked whether it is true")


NUMBERS = [0, 1, -1, 7, 10 ** 30]
TRUTHS = [True, False]
OTHERS = [
    [], ["a"], [[]], (), ("a",), ("one",), {}, {"a": "b"}, {"a"}, frozenset(), b"", b"a",
    object(), Odd(), [Odd()], (Odd(),), len, int, str, list, range(3), NotImplemented, Ellipsis,
]
NO_TEXTS = NUMBERS + TRUTHS + [None] + OTHERS
NO_TRUTHS = NUMBERS + [None, "", "a", "True", "False"] + OTHERS
NO_LISTS = NUMBERS + TRUTHS + ["", "a"] + [
    (), ("a",), {}, {"a": "b"}, {"a"}, b"", object(), Odd(), len, list, range(0), iter([]),
]

GOOD_NAMES = [
    "a", "z", "0", "9", "ab", "a-b", "a--b", "1-2", "no", "non", "no0", "n-o", "ano-b", "a-no-b",
    "abcdefghij", "klmnopqrst", "uvwxyz0123", "456789", "a12345678z", "a--------b",
]
BAD_NAMES = [
    "", "abcdefghijk", "a" * 200, "-", "--", "-a", "a-", "-a-", "no-", "no-a", "no--a", "no-abcdefg",
    "A", "aB", "a b", " a", "a ", "a_b", "a.b", "a=b", "a:b", "a/b", "[", "`", "{", "@", "a'",
]

GOOD_SHORTS = list(string.ascii_letters) + [""]
BAD_SHORTS = [
    "ab", "AB", "abc", "aa", "0", "9", "-", "-a", " ", "a ", "@", "[", "`", "{", "=", "_", "?",
    string.ascii_lowercase, string.ascii_letters, string.ascii_uppercase,
]

GOOD_ABOUTS = ["", "a", "a b", "-", "Says more, - and (more).", "a" * 200, "a" * 99 + " " + "b" * 100, "a " * 99 + "bc"]
BAD_ABOUTS = [
    " ", "  ", " a", "a ", "a  b", "a b  c", "a   b", "a" * 201, "a " * 100 + "b", "a" * 199 + " ", "b" * 1000,
]

GOOD_DEFAULTS = ["", " ", "a", "-", "--", "--a=b", "no-a", "two  words ", "'", "a" * 60, " " * 60]
LONG_DEFAULTS = ["a" * 61, " " * 61, "a b " * 16]


def refusal(case, error, make, *handed, **named):
    """The error with which make refuses what is handed in, of just that class."""
    with case.assertRaises(error) as caught:
        make(*handed, **named)
    case.assertEqual(caught.exception.__class__, error)
    return caught.exception
