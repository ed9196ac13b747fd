"""Answers: what a row that is let by says, its values and its words."""

from wordbench.errors import NoName
from wordbench.readings import reading_of
from wordbench.rowtexts import row_text
from wordbench.words import DIVIDER, kind_of


class Told:
    """What an answer tells of one option or place: the words of it, as written, and its value.

    Where it is listed, worth is a list of values.
    """

    def __init__(self, row, worth, listed):
        self.row = row
        self.worth = worth
        self.listed = listed


def sayings_by_name(reading, depth):
    """The sayings of the options and places of one command, in order, by their names."""
    found = {}
    for saying in reading.sayings:
        # The saying of the command has its depth, too, and perhaps an option's name.
        if saying.depth == depth and saying.what in ("option", "off", "place"):
            found.setdefault(saying.who, []).append(saying)
    return found


def told_flag(option, sayings):
    if len(sayings) == 0:
        return Told([], False, False)
    if sayings[0].what == "off":
        return Told([f"--no-{option.long()}"], False, False)
    return Told([f"--{option.long()}"], True, False)


def told_count(option, sayings):
    many = 0
    for saying in sayings:
        many = 0 if saying.what == "off" else many + 1
    row = [f"--{option.long()}" for turn in range(many)]
    if many == 0 and len(sayings) > 0:
        row = [f"--no-{option.long()}"]
    return Told(row, many, False)


def told_listed(row, sayings):
    return Told(row, [saying.worth for saying in sayings], True)


def told_single(row, sayings, maker, default, makers):
    """The last one of the values, or that of the default."""
    if len(sayings) > 0:
        return Told(row[-1:], sayings[-1].worth, False)
    if default is None:
        return Told([], None, False)
    return Told([], makers.made(maker, default), False)


def told_option(option, sayings, makers):
    if option.takes() == "flag":
        return told_flag(option, sayings)
    if option.takes() == "count":
        return told_count(option, sayings)
    row = [f"--{option.long()}={saying.word}" for saying in sayings]
    if option.takes() == "each":
        return told_listed(row, sayings)
    return told_single(row, sayings, option.maker(), option.default(), makers)


def told_place(place, sayings, makers):
    row = [saying.word for saying in sayings]
    if place.many() in ("some", "any"):
        return told_listed(row, sayings)
    return told_single(row, sayings, place.maker(), place.default(), makers)


def told_command(reading, depth):
    """What is told of each option and then of each place of one command, by their names."""
    command = reading.chain[depth]
    makers = reading.bench.makers()
    sayings = sayings_by_name(reading, depth)
    told = {}
    for option in command.options():
        told[option.long()] = told_option(option, sayings.get(option.long(), []), makers)
    for place in command.places():
        told[place.name()] = told_place(place, sayings.get(place.name(), []), makers)
    return told


def written_words(chain, tables):
    words = []
    for depth, command in enumerate(chain):
        if depth > 0:
            words.append(command.name())
        for option in command.options():
            words += tables[depth][option.long()].row
    # Only the last command has places: others have commands beneath.
    behind = [word for place in chain[-1].places() for word in tables[-1][place.name()].row]
    if any([kind_of(word) != "plain" for word in behind]):
        words.append(DIVIDER)
    return words + behind


class Answer:
    """What a reading says that can end; it does not change."""

    def __init__(self, reading):
        self.names_down = reading.path()
        # In the path's order, since the makers of defaults are asked in it.
        self.tables = [told_command(reading, depth) for depth in range(len(reading.chain))]
        self.held_words = written_words(reading.chain, self.tables)

    def path(self):
        return list(self.names_down)

    def told(self, name, depth):
        """What is told of a name at a depth, or, without one, at the last that has it."""
        depths = list(range(len(self.tables))) if depth is None else [depth]
        for at in reversed(depths):
            if 0 <= at < len(self.tables) and name in self.tables[at]:
                return self.tables[at][name]
        raise NoName(name)

    def value(self, name, depth=None):
        told = self.told(name, depth)
        # A new list each time, since it is the asker's own.
        return list(told.worth) if told.listed else told.worth

    def times(self, name, depth=None):
        return len(self.told(name, depth).row)

    def written(self):
        return list(self.held_words)

    def __eq__(self, other):
        return isinstance(other, Answer) and self.held_words == other.held_words

    def __len__(self):
        return len([told for table in self.tables for told in table.values() if len(told.row) > 0])

    def __repr__(self):
        return f"Answer({repr(self.held_words)})"

    def __str__(self):
        return str(row_text(self.held_words))


def answer_of(reading):
    reading.end()
    return Answer(reading)


def read(bench, row):
    return answer_of(reading_of(bench, row))
