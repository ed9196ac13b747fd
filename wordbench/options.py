"""Options and places of a command."""

from wordbench.checks import comma_joined, is_about, is_among, is_default, is_name, is_short_or_empty, is_truth
from wordbench.errors import NoOption, NoPlace

TAKES = ("flag", "count", "one", "last", "each")
UNVALUED = ("flag", "count")
WITH_DEFAULT = ("one", "last")
MANIES = ("one", "maybe", "some", "any")


def is_valued(option):
    return option.takes() not in UNVALUED


class Option:
    """An option, made of its eight arguments; it does not change."""

    def __init__(self, long, short="", takes="flag", maker="word", default=None, needed=False, off=False, about=""):
        if not is_name(long):
            raise NoOption("long")
        if not is_short_or_empty(short):
            raise NoOption("short")
        if not is_among(takes, TAKES):
            raise NoOption("takes")
        if not is_name(maker):
            raise NoOption("maker")
        if not is_default(default, takes in WITH_DEFAULT):
            raise NoOption("default")
        if not is_truth(needed, takes not in UNVALUED and default is None):
            raise NoOption("needed")
        if not is_truth(off, takes in UNVALUED):
            raise NoOption("off")
        if not is_about(about):
            raise NoOption("about")
        # One tuple in the interface's order, so that equality and repr leave nothing out.
        self.held = (long, short, takes, maker, default, needed, off, about)

    def long(self):
        return self.held[0]

    def short(self):
        return self.held[1]

    def takes(self):
        return self.held[2]

    def maker(self):
        return self.held[3]

    def default(self):
        return self.held[4]

    def needed(self):
        return self.held[5]

    def off(self):
        return self.held[6]

    def about(self):
        return self.held[7]

    def __eq__(self, other):
        return isinstance(other, Option) and self.held == other.held

    def __repr__(self):
        return f"Option({comma_joined(self.held)})"


class Place:
    """A place, made of its five arguments; it does not change."""

    def __init__(self, name, many="one", maker="word", default=None, about=""):
        if not is_name(name):
            raise NoPlace("name")
        if not is_among(many, MANIES):
            raise NoPlace("many")
        if not is_name(maker):
            raise NoPlace("maker")
        if not is_default(default, many == "maybe"):
            raise NoPlace("default")
        if not is_about(about):
            raise NoPlace("about")
        # One tuple in the interface's order, so that equality and repr leave nothing out.
        self.held = (name, many, maker, default, about)

    def name(self):
        return self.held[0]

    def many(self):
        return self.held[1]

    def maker(self):
        return self.held[2]

    def default(self):
        return self.held[3]

    def about(self):
        return self.held[4]

    def __eq__(self, other):
        return isinstance(other, Place) and self.held == other.held

    def __repr__(self):
        return f"Place({comma_joined(self.held)})"
