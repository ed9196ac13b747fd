"""What goes on behind a row that was read so far, and what ends it soonest."""

from wordbench.errors import Fault
from wordbench.faults import right_reading
from wordbench.readings import needed_options, needy_places, reading_of
from wordbench.words import DIVIDER


def option_words(options, makers):
    # A word for each, the value in it: no word can say two options that have values.
    return [f"--{option.long()}={makers.sample(option.maker())}" for option in options]


def place_words(places, makers):
    return [makers.sample(place.maker()) for place in places]


def words_to_end(command, options, places, makers):
    """The fewest words that end a row at a command or beneath it, whose options and places lack a word."""
    words = option_words(options, makers)
    if len(command.commands()) == 0:
        return words + place_words(places, makers)
    return words + min([words_by_way_of(beneath, makers) for beneath in command.commands()], key=len)


def words_by_way_of(command, makers):
    """A command's name and the fewest words that end a row behind it."""
    return [command.name()] + words_to_end(command, needed_options(command), needy_places(command), makers)


def rest_of(reading):
    makers = reading.bench.makers()
    words = words_to_end(reading.here(), reading.unsaid_options(), reading.wordless_places(), makers)
    if reading.waiting is None:
        return words
    return [makers.sample(reading.waiting.maker())] + words


def rest(bench, row):
    return rest_of(reading_of(bench, row))


def mended(bench, row):
    # A row that is let by has a rest of no words, so it is itself.
    reading = right_reading(bench, row)
    return reading.words() + rest_of(reading)


def going_by(reading, kind, who, word):
    """A list of what goes on by this word; of none where the word can't be taken."""
    trial = reading.copied()
    try:
        trial.take(word)
    except Fault:
        return []
    return [(kind, who, [word] + rest_of(trial))]


def going_by_options(reading):
    found = []
    for option in reading.here().options():
        found += going_by(reading, "option", option.long(), f"--{option.long()}")
        if option.off():
            found += going_by(reading, "off", option.long(), f"--no-{option.long()}")
    return found


def going_by_commands(reading):
    found = []
    for command in reading.here().commands():
        found += going_by(reading, "command", command.name(), command.name())
    return found


def going_by_place(reading):
    place = reading.free_place()
    if place is None:
        return []
    return going_by(reading, "place", place.name(), reading.bench.makers().sample(place.maker()))


def going_by_end(reading):
    try:
        reading.end()
    except Fault:
        return []
    return [("end", "", [])]


def onward(bench, row):
    reading = reading_of(bench, row)
    awaiting = reading.waiting
    if awaiting is not None:
        return going_by(reading, "value", awaiting.long(), bench.makers().sample(awaiting.maker()))
    # Behind the divider each of these words would go to a place.
    if reading.divided:
        return going_by_place(reading) + going_by_end(reading)
    found = going_by_options(reading) + going_by_commands(reading) + going_by_place(reading)
    return found + going_by(reading, "divider", "", DIVIDER) + going_by_end(reading)
