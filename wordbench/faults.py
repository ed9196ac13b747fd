"""The fault of a row, and its right words."""

from wordbench.errors import Fault
from wordbench.readings import Reading, reading_of


def fault(bench, row):
    try:
        reading_of(bench, row).end()
    except Fault as found:
        return (found.at, found.kind, found.who)
    return None


def right_reading(bench, row):
    """The reading of the words ahead of the first one that is refused."""
    reading = Reading(bench)
    for word in list(row):
        try:
            reading.take(word)
        except Fault:
            return reading
    return reading


def right_words(bench, row):
    return right_reading(bench, row).words()
