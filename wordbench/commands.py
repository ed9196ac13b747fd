"""Commands, one within the other."""

from wordbench.checks import is_about, is_list_within, is_name
from wordbench.errors import NoCommand
from wordbench.options import Option, Place

MOST_OPTIONS = 12
MOST_PLACES = 6
MOST_GROUPS = 4
FEWEST_IN_GROUP = 2
MOST_IN_GROUP = 6
MOST_COMMANDS = 8


def are_options(value):
    return is_list_within(value, MOST_OPTIONS) and all([isinstance(each, Option) for each in value])


def are_places(value):
    return is_list_within(value, MOST_PLACES) and all([isinstance(each, Place) for each in value])


def is_group(value):
    if not is_list_within(value, MOST_IN_GROUP) or len(value) < FEWEST_IN_GROUP:
        return False
    return all([isinstance(each, str) for each in value])


def are_groups(value):
    return is_list_within(value, MOST_GROUPS) and all([is_group(each) for each in value])


def are_commands(value):
    return is_list_within(value, MOST_COMMANDS) and all([isinstance(each, Command) for each in value])


def empty_for_none(value):
    return [] if value is None else value


def copied_groups(groups):
    return [list(group) for group in groups]


class Command:
    """A command with all beneath it; it does not change."""

    def __init__(self, name, options=None, places=None, groups=None, commands=None, about=""):
        if not is_name(name):
            raise NoCommand("name")
        if not are_options(empty_for_none(options)):
            raise NoCommand("options")
        if not are_places(empty_for_none(places)):
            raise NoCommand("places")
        if not are_groups(empty_for_none(groups)):
            raise NoCommand("groups")
        if not are_commands(empty_for_none(commands)):
            raise NoCommand("commands")
        if not is_about(about):
            raise NoCommand("about")
        # Copies here and in the methods: lists stay with those who hand them in or are told them.
        self.own_name = name
        self.own_options = list(empty_for_none(options))
        self.own_places = list(empty_for_none(places))
        self.own_groups = copied_groups(empty_for_none(groups))
        self.own_commands = list(empty_for_none(commands))
        self.own_about = about

    def name(self):
        return self.own_name

    def options(self):
        return list(self.own_options)

    def places(self):
        return list(self.own_places)

    def groups(self):
        return copied_groups(self.own_groups)

    def commands(self):
        return list(self.own_commands)

    def about(self):
        return self.own_about
