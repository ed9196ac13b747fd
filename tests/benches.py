"""Benches, readings and makers that several test files use."""

import unittest

from handed import refusal
from wordbench.bench import Bench
from wordbench.commands import Command
from wordbench.errors import Fault, Unmade
from wordbench.makers import Makers, own_makers
from wordbench.options import Option, Place
from wordbench.readings import Reading


def a_bench(options=(), places=(), groups=(), commands=(), table=None):
    root = Command("root", list(options), list(places), [list(group) for group in groups], list(commands))
    return Bench(root, Makers(own_makers() if table is None else table))


def begun(bench, *words):
    """A reading that has taken the words."""
    reading = Reading(bench)
    for word in words:
        reading.take(word)
    return reading


def fields_of(error):
    return {name: value for name, value in vars(error).items() if name != "kind"}


def ending(reading):
    """What the end tells: None, or the fault's class and fields."""
    try:
        return reading.end()
    except Fault as fault:
        return fault.__class__, fields_of(fault)


def state(reading):
    """All that a reading tells."""
    command = reading.bench.root()
    for name in reading.path()[1:]:
        command = [beneath for beneath in command.commands() if beneath.name() == name][0]
    names = [option.long() for option in command.options()] + [place.name() for place in command.places()]
    return [
        list(reading.words()), list(reading.path()), reading.awaited(), list(reading.parts()),
        [reading.said(name) for name in names], ending(reading),
    ]


def covers(reading):
    """Whether the parts of each word lie one behind the other from 0 to its length."""
    words = reading.words()
    for number, word in enumerate(words):
        mine = [part for part in reading.parts() if part[0] == number]
        if not mine or mine[0][1] != 0 or mine[-1][2] != len(word):
            return False
        if any(ahead[2] != behind[1] for ahead, behind in zip(mine, mine[1:])):
            return False
        if any(begin > end for _, begin, end, _, _, _ in mine):
            return False
    return [part[0] for part in reading.parts()] == sorted(part[0] for part in reading.parts())


class BenchCase(unittest.TestCase):
    def refused(self, reading, word, error, /, **fields):
        """The word is refused with just this error and these fields, and leaves the reading as it was."""
        before = state(reading)
        fields.setdefault("at", len(reading.words()))
        for _ in range(2):
            caught = refusal(self, error, reading.take, word)
            self.assertEqual(fields_of(caught), fields)
            self.assertEqual(state(reading), before)

    def cant_end(self, reading, error, /, **fields):
        before = reading.words(), reading.parts(), reading.awaited()
        fields.setdefault("at", len(reading.words()))
        for _ in range(2):
            self.assertEqual(fields_of(refusal(self, error, reading.end)), fields)
            self.assertEqual((reading.words(), reading.parts(), reading.awaited()), before)

    def row_refused(self, tell, bench, row, error, /, **fields):
        """tell(bench, row) refuses the row with just this error, and the row stays as it was."""
        before = list(row)
        self.assertEqual(fields_of(refusal(self, error, tell, bench, row)), fields)
        self.assertEqual(row, before)


class Asked:
    """A maker that writes down what it is asked; it makes nothing of words that begin with "bad"."""

    def __init__(self, told=None):
        self.words = []
        self.told = told or {}

    def __call__(self, word):
        self.words.append(word)
        if word.startswith("bad"):
            raise Unmade(f"of {word}")
        return self.told.get(word, word.upper())


def asked_bench(options=(), places=(), groups=(), commands=(), told=None):
    """A bench of which the maker "m" writes down what it is asked, and that maker, asked nothing so far."""
    maker = Asked(told)
    bench = a_bench(options, places, groups, commands, {"m": (maker, "s"), **own_makers()})
    maker.words.clear()
    return bench, maker


def sample_bench():
    """A tree that has something of everything."""
    copy = Command(
        "copy",
        [
            Option("force", "f", off=True),
            Option("level", "l", "last", "whole", default="3"),
            Option("quiet", "q", "count", off=True),
            Option("tag", "t", "each"),
            Option("as", "", "one", "pair", needed=True),
            Option("fast", "F"),
            Option("slow", "s"),
        ],
        [Place("from", "some")],
        [["fast", "slow"]],
    )
    move = Command("move", [Option("dry", "d")], [Place("what"), Place("to", "maybe", "whole", default="7")])
    more = Command("more", [Option("all")], [], [], [Command("up", [Option("far", "", "one", needed=True)]), Command("down")])
    return a_bench(
        [Option("verbose", "v", "count"), Option("at", "a", "one")], commands=[copy, move, more],
    )


LET_BY = [
    "copy --as=a:b x", "copy --as a:b x", "-v copy --as=: x y z", "-vva5 cop -fq --as=1:2 -t a -tb --ta= -l 3 -l4 x -- -y --",
    "--at= move a", "-a x mov -d a 5", "mov a --dry", "mov -- a", "mov -- -- 7", "mov -d -- -d", "more --all down", "more up --far=x",
    "mor u --fa x", "copy --no-f --no-q -q --no-quiet --as=a: -s b", "copy -Fqqq --as a:b -- a", "mov - 5", "-v mor d",
]


# Rows of the sample bench of which a word is refused, each with its fault.
REFUSED_WORDS = [
    (["zz"], (0, "unknown", "zz")), (["-v", "--zz=5"], (1, "unknown", "zz")), (["-vz"], (0, "unknown", "z")), (["--"], (0, "unknown", "--")),
    ([""], (0, "unknown", "")), (["mo"], (0, "unclear", "mo")), (["copy", "--f"], (1, "unclear", "f")),
    (["copy", "--force=1"], (1, "unwanted", "force")), (["copy", "--no-quiet="], (1, "unwanted", "quiet")),
    (["-a1", "-v", "--at=2"], (2, "again", "at")), (["copy", "-f", "--no-force"], (2, "again", "force")),
    (["copy", "-Fs"], (1, "together", "slow")), (["copy", "-s", "-f", "--fast"], (3, "together", "fast")),
    (["--at", "--at"], (1, "novalue", "at")), (["copy", "-t", "--"], (2, "novalue", "tag")),
    (["move", "a", "b"], (2, "badvalue", "to")), (["copy", "-l", "x"], (2, "badvalue", "level")), (["copy", "--as=x"], (1, "badvalue", "as")),
    (["copy", "--"], (1, "lacks", "as")), (["move", "a", "5", "it's"], (3, "spare", "it's")), (["more", "down", ""], (2, "spare", "")),
]
# Rows that only their end refuses.
REFUSED_ENDS = [
    ([], (0, "unnamed", "root")), (["-vv"], (1, "unnamed", "root")), (["more", "--all"], (2, "unnamed", "more")),
    (["--at"], (1, "novalue", "at")), (["copy", "--as=:", "-ql"], (3, "novalue", "level")),
    (["copy"], (1, "lacks", "as")), (["copy", "x", "y"], (3, "lacks", "as")), (["copy", "--as=:"], (2, "lacks", "from")),
    (["move", "-d"], (2, "lacks", "what")), (["move", "--"], (2, "lacks", "what")), (["more", "up"], (2, "lacks", "far")),
]


def rows_let_by():
    return [row.split() for row in LET_BY]
