"""A desk: rows as texts that ask a bench and keep answers by names."""

from wordbench.answers import read
from wordbench.checks import is_name
from wordbench.errors import NoName, NoRow
from wordbench.faults import fault
from wordbench.onward import onward, rest
from wordbench.rowtexts import row_text, words_of
from wordbench.usage import usage


def say_read(desk, words):
    return str(read(desk.bench, words))


def say_keep(desk, words):
    desk.kept[words[0]] = read(desk.bench, words[1:])
    return "ok"


def say_drop(desk, words):
    del desk.kept[words[0]]
    return "ok"


def say_kept(desk, words):
    return " ".join(sorted(list(desk.kept)))


def say_show(desk, words):
    return str(desk.kept[words[0]])


def say_same(desk, words):
    return "yes" if desk.kept[words[0]] == desk.kept[words[1]] else "no"


def say_times(desk, words):
    return str(desk.kept[words[0]].times(words[1]))


def say_fault(desk, words):
    found = fault(desk.bench, words)
    if found is None:
        return "none"
    return row_text([str(found[0]), found[1], found[2]])


def say_rest(desk, words):
    return row_text(rest(desk.bench, words))


def say_on(desk, words):
    return "; ".join([row_text([kind, who]) for kind, who, behind in onward(desk.bench, words)])


def say_usage(desk, words):
    return "\n".join(usage(desk.bench, words))


# For each first word: how many names follow, by how many of them something has to be kept,
# whether other words follow, and what says the answer.
KINDS = {
    "read": (0, 0, True, say_read),
    "keep": (1, 0, True, say_keep),
    "drop": (1, 1, False, say_drop),
    "kept": (0, 0, False, say_kept),
    "show": (1, 1, False, say_show),
    "same": (2, 2, False, say_same),
    "times": (2, 1, False, say_times),
    "fault": (0, 0, True, say_fault),
    "rest": (0, 0, True, say_rest),
    "on": (0, 0, True, say_on),
    "usage": (0, 0, True, say_usage),
}


def fits(words, names, more):
    """Whether the words are so many names, and others only where more may follow."""
    if len(words) < names or (len(words) > names and not more):
        return False
    return all([is_name(word) for word in words[:names]])


class Desk:
    """A bench, and the answers that are kept by names."""

    def __init__(self, bench):
        self.bench = bench
        self.kept = {}

    def say(self, row):
        words = words_of(row)
        if len(words) == 0 or words[0] not in KINDS:
            raise NoRow("no such kind of row")
        names, known, more, action = KINDS[words[0]]
        behind = words[1:]
        if not fits(behind, names, more):
            raise NoRow("a row of this kind has other words")
        for name in behind[:known]:
            if name not in self.kept:
                raise NoName(name)
        return action(self, behind)
