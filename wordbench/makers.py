"""Makers, which make values of words, and tables of them."""

from wordbench.checks import is_name
from wordbench.errors import NoMaker, NoName, Unmade
from wordbench.names import meant
from wordbench.words import kind_of

MOST_WHOLE_FIGURES = 60
MOST_BASED_FIGURES = 50
FIGURES = "0123456789abcdef"
BASES = {"0b": 2, "0o": 8, "0x": 16}


def are_figures(text, base, most):
    """Whether a text is of one to most figures of the base."""
    return 1 <= len(text) <= most and all([sign in FIGURES[:base] for sign in text])


def as_word(word):
    return word


def as_whole(word):
    # The figures are looked at first, since int takes blanks, signs and underscores, too.
    if not are_figures(word.removeprefix("-"), 10, MOST_WHOLE_FIGURES):
        raise Unmade("no whole number")
    number = int(word)
    if str(number) != word:
        raise Unmade("a whole number with too many noughts")
    return number


def as_based(word):
    beginning, figures = word[:2], word[2:]
    if beginning not in BASES:
        raise Unmade("no beginning 0b, 0o or 0x")
    base = BASES[beginning]
    if not are_figures(figures, base, MOST_BASED_FIGURES):
        raise Unmade(f"no number of base {base}")
    return int(figures, base)


def as_yesno(word):
    if word not in ("yes", "no"):
        raise Unmade("neither yes nor no")
    return word == "yes"


def as_pair(word):
    ahead, sign, behind = word.rpartition(":")
    if sign == "":
        raise Unmade("no sign : in it")
    return (ahead, behind)


def as_list(word):
    return () if word == "" else tuple(word.split(","))


OWN_MAKERS = {
    "word": (as_word, "word"),
    "whole": (as_whole, "7"),
    "based": (as_based, "0x1f"),
    "yesno": (as_yesno, "yes"),
    "pair": (as_pair, "key:value"),
    "list": (as_list, "one,two"),
}


def own_makers():
    return dict(OWN_MAKERS)


def one_of(words):
    kept = list(words)

    def chosen(word):
        found = meant(kept, word)
        if len(found) != 1:
            raise Unmade("not just one of the words is meant")
        return found[0]

    return chosen


def makes_of(maker, word):
    """Whether the maker makes a value of the word, whatever value that is."""
    try:
        maker(word)
    except Unmade:
        return False
    return True


def is_sample(value, maker):
    return isinstance(value, str) and kind_of(value) == "plain" and makes_of(maker, value)


class Makers:
    """A table of makers by their names; it does not change."""

    def __init__(self, table):
        # A copy, since the table stays with the one who hands it in.
        self.table = dict(table)
        for name, (maker, sample) in self.table.items():
            if not is_name(name) or not is_sample(sample, maker):
                raise NoMaker(name)

    def names(self):
        return sorted(list(self.table))

    def entry(self, name):
        if name not in self.table:
            raise NoName(name)
        return self.table[name]

    def sample(self, name):
        return self.entry(name)[1]

    def made(self, name, word):
        maker = self.entry(name)[0]
        return maker(word)
