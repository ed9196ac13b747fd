"""Ways of saying the same: a row's units, a row spelled at length, a row clipped."""

from wordbench.names import least_beginning
from wordbench.readings import long_meanings, names_beneath, reading_of
from wordbench.words import DIVIDER


def ended_reading(bench, row):
    """The reading of a row that is let by."""
    reading = reading_of(bench, row)
    reading.end()
    return reading


def units(bench, row):
    reading = ended_reading(bench, row)
    words = reading.words()
    found = []
    for at, begin, end, depth, what, who in reading.parts():
        if begin > 0:
            continue
        # A value that begins a word belongs to the option in the word ahead.
        if what == "value":
            found[-1].append(words[at])
        else:
            found.append([words[at]])
    return found


def long_name(saying):
    return f"no-{saying.who}" if saying.what == "off" else saying.who


def long_word(name, value):
    return f"--{name}" if value is None else f"--{name}={value}"


def spelled_word(saying):
    if saying.what == "command":
        return saying.who
    if saying.what == "divider":
        return DIVIDER
    if saying.what == "place":
        return saying.word
    return long_word(long_name(saying), saying.word)


def spelled(bench, row):
    return [spelled_word(saying) for saying in ended_reading(bench, row).sayings]


def clipped_short(saying, chain):
    """The short by which an option is said in a clipped row, or the text without signs."""
    # A value without signs can't stand behind a short: the next word would be the value.
    if saying.what != "option" or saying.word == "":
        return ""
    option, what = long_meanings(chain[saying.depth])[saying.who]
    return option.short()


def clipped_word(saying, chain):
    """The word of its own that a saying without a short is in a clipped row."""
    if saying.what == "command":
        return least_beginning(names_beneath(chain[saying.depth - 1]), saying.who)
    if saying.what in ("option", "off"):
        names = list(long_meanings(chain[saying.depth]))
        return long_word(least_beginning(names, long_name(saying)), saying.word)
    return spelled_word(saying)


def clipped(bench, row):
    reading = ended_reading(bench, row)
    words = []
    # Whether the last word is of shorts that no value ended.
    joins = False
    for saying in reading.sayings:
        short = clipped_short(saying, reading.chain)
        if short == "":
            words.append(clipped_word(saying, reading.chain))
            joins = False
            continue
        if not joins:
            words.append("-")
        words[-1] += short
        joins = saying.word is None
        if not joins:
            words[-1] += saying.word
    return words
