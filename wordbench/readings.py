"""Readings: rows of words, taken word by word."""

from wordbench.errors import Again, BadValue, Lacks, NoName, NoValue, Spare, Together
from wordbench.errors import Unclear, Unknown, Unmade, Unnamed, Unwanted
from wordbench.names import meant
from wordbench.options import is_valued
from wordbench.words import DIVIDER, kind_of, long_parts

SAID_ONCE = ("flag", "one")
NEVER_FULL = ("some", "any")
NEEDS_WORD = ("one", "some")


def long_meanings(command):
    """What the names of long words mean: an option, and whether it is said or switched off."""
    found = {}
    for option in command.options():
        found[option.long()] = (option, "option")
        if option.off():
            found["no-" + option.long()] = (option, "off")
    return found


def option_with_short(command, letter):
    for option in command.options():
        if option.short() == letter:
            return option
    return None


def others_of_group(command, long):
    for group in command.groups():
        if long in group:
            return [other for other in group if other != long]
    return []


def names_within(command):
    return [option.long() for option in command.options()] + [place.name() for place in command.places()]


def names_beneath(command):
    return [beneath.name() for beneath in command.commands()]


def needed_options(command):
    return [option for option in command.options() if option.needed()]


def needy_places(command):
    """The places that a row can't end without a word of."""
    return [place for place in command.places() if place.many() in NEEDS_WORD]


class Saying:
    """One saying of an option, a command, a place or the divider; it does not change.

    What and who are those of its first part; word is what a maker was
    handed, or None, and worth what the maker told of it.
    """

    def __init__(self, depth, what, who, word, worth):
        self.depth = depth
        self.what = what
        self.who = who
        self.word = word
        self.worth = worth


class Reading:
    """A row of words that was read so far."""

    def __init__(self, bench):
        self.bench = bench
        self.chain = [bench.root()]
        self.taken = []
        self.sayings = []
        self.held_parts = []
        # How often the options and places of the command it is at were said: those above don't count.
        self.counts = {}
        self.waiting = None
        self.divided = False

    def copied(self):
        other = Reading(self.bench)
        other.chain = list(self.chain)
        other.taken = list(self.taken)
        other.sayings = list(self.sayings)
        other.held_parts = list(self.held_parts)
        other.counts = dict(self.counts)
        other.waiting = self.waiting
        other.divided = self.divided
        return other

    def become(self, other):
        """Comes to be where the other one is, which is given up: nothing is copied."""
        self.chain = other.chain
        self.taken = other.taken
        self.sayings = other.sayings
        self.held_parts = other.held_parts
        self.counts = other.counts
        self.waiting = other.waiting
        self.divided = other.divided

    def words(self):
        return list(self.taken)

    def path(self):
        return [command.name() for command in self.chain]

    def awaited(self):
        return None if self.waiting is None else self.waiting.long()

    def said(self, name):
        if name not in names_within(self.here()):
            raise NoName(name)
        return self.counts.get(name, 0)

    def parts(self):
        return list(self.held_parts)

    def here(self):
        """The command that the reading is at."""
        return self.chain[-1]

    def unsaid_options(self):
        """The needed options that aren't said."""
        return [option for option in needed_options(self.here()) if option.long() not in self.counts]

    def wordless_places(self):
        """The places that need a word and have none."""
        return [place for place in needy_places(self.here()) if place.name() not in self.counts]

    def free_place(self):
        """The first place that isn't full, or None."""
        for place in self.here().places():
            if place.many() in NEVER_FULL or place.name() not in self.counts:
                return place
        return None

    def end(self):
        if self.waiting is not None:
            raise NoValue(len(self.taken), self.waiting.long())
        self.refuse_unsaid()
        if len(self.here().commands()) > 0:
            raise Unnamed(len(self.taken), self.here().name())
        wordless = self.wordless_places()
        if len(wordless) > 0:
            raise Lacks(len(self.taken), wordless[0].name())

    def take(self, word):
        # A copy takes it, so that a word that is refused halfway leaves this one as it was.
        trial = self.copied()
        trial.take_by_kind(word)
        trial.taken.append(word)
        self.become(trial)

    def take_by_kind(self, word):
        kind = kind_of(word)
        if self.waiting is not None:
            self.take_awaited(word, kind)
        elif self.divided:
            self.take_for_place(word)
        elif kind == "divider":
            self.take_divider()
        elif kind == "long":
            self.take_long(word)
        elif kind == "shorts":
            self.take_shorts(word)
        elif len(self.here().commands()) > 0:
            self.take_command(word)
        else:
            self.take_for_place(word)

    def take_awaited(self, word, kind):
        if kind != "plain":
            raise NoValue(len(self.taken), self.waiting.long())
        self.take_value(word, 0)

    def take_divider(self):
        if len(self.here().commands()) > 0:
            raise Unknown(len(self.taken), DIVIDER)
        self.refuse_unsaid()
        self.divided = True
        self.note("divider", "", None, None)
        self.note_part(0, len(DIVIDER), "divider", "")

    def take_long(self, word):
        name, value = long_parts(word)
        meanings = long_meanings(self.here())
        option, what = meanings[self.only_meant(list(meanings), name)]
        end = len(word) if value is None else len(word) - len(value)
        self.say_option(option, what, 0, end)
        if value is None:
            return
        if self.waiting is None:
            raise Unwanted(len(self.taken), option.long())
        self.take_value(value, end)

    def take_shorts(self, word):
        for index in range(1, len(word)):
            option = option_with_short(self.here(), word[index])
            if option is None:
                raise Unknown(len(self.taken), word[index])
            self.say_option(option, "option", 0 if index == 1 else index, index + 1)
            if self.waiting is not None:
                value = word[index + 1:]
                if value != "":
                    self.take_value(value, index + 1)
                return

    def take_command(self, word):
        names = names_beneath(self.here())
        name = self.only_meant(names, word)
        self.refuse_unsaid()
        self.chain.append(self.here().commands()[names.index(name)])
        self.counts = {}
        self.note("command", name, None, None)
        self.note_part(0, len(word), "command", name)

    def take_for_place(self, word):
        place = self.free_place()
        if place is None:
            raise Spare(len(self.taken), word)
        worth = self.worth_of(place.name(), place.maker(), word)
        self.count_one(place.name())
        self.note("place", place.name(), word, worth)
        self.note_part(0, len(word), "place", place.name())

    def take_value(self, value, begin):
        """Takes the value that is awaited, from begin on in the word."""
        option = self.waiting
        worth = self.worth_of(option.long(), option.maker(), value)
        # The option's saying is the last one; copies may share it, so it is replaced, not changed.
        self.sayings.pop()
        self.note("option", option.long(), value, worth)
        self.note_part(begin, begin + len(value), "value", option.long())
        self.waiting = None

    def say_option(self, option, what, begin, end):
        self.refuse_saying(option)
        self.count_one(option.long())
        self.note(what, option.long(), None, None)
        self.note_part(begin, end, what, option.long())
        if is_valued(option):
            self.waiting = option

    def only_meant(self, names, beginning):
        """The one name that is meant by a beginning."""
        found = meant(names, beginning)
        if len(found) == 0:
            raise Unknown(len(self.taken), beginning)
        if len(found) > 1:
            raise Unclear(len(self.taken), beginning, found)
        return found[0]

    def worth_of(self, who, maker, word):
        try:
            return self.bench.makers().made(maker, word)
        except Unmade as unmade:
            raise BadValue(len(self.taken), who, word, unmade.why) from None

    def refuse_saying(self, option):
        if option.takes() in SAID_ONCE and option.long() in self.counts:
            raise Again(len(self.taken), option.long())
        for other in others_of_group(self.here(), option.long()):
            if other in self.counts:
                raise Together(len(self.taken), option.long(), other)

    def refuse_unsaid(self):
        unsaid = self.unsaid_options()
        if len(unsaid) > 0:
            raise Lacks(len(self.taken), unsaid[0].long())

    def count_one(self, name):
        self.counts[name] = self.counts.get(name, 0) + 1

    def note(self, what, who, word, worth):
        self.sayings.append(Saying(len(self.chain) - 1, what, who, word, worth))

    def note_part(self, begin, end, what, who):
        self.held_parts.append((len(self.taken), begin, end, len(self.chain) - 1, what, who))


def reading_of(bench, row):
    """The reading of a row; the first word that is refused is told as its fault."""
    reading = Reading(bench)
    for word in list(row):
        reading.take(word)
    return reading
