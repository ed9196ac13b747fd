"""Benches: a tree of commands, and the makers of its values."""

from wordbench.clashes import first_clash
from wordbench.errors import BadDefault, Clash, NoMaker, Unmade
from wordbench.options import is_valued


def made_ones(command):
    """The name, the maker's name and the default of each valued option, then of each place."""
    options = [(option.long(), option.maker(), option.default()) for option in command.options() if is_valued(option)]
    return options + [(place.name(), place.maker(), place.default()) for place in command.places()]


def made_ones_within(command, above):
    """Those of a command and all beneath it, each behind its path."""
    path = above + [command.name()]
    found = [(path, who, maker, default) for who, maker, default in made_ones(command)]
    for beneath in command.commands():
        found += made_ones_within(beneath, path)
    return found


def refuse_missing_maker(found, makers):
    there = makers.names()
    for path, who, maker, default in found:
        if maker not in there:
            raise NoMaker(maker)


def refuse_bad_default(found, makers):
    for path, who, maker, default in found:
        if default is not None:
            try:
                makers.made(maker, default)
            except Unmade as unmade:
                raise BadDefault(path, who, unmade.why) from None


class Bench:
    """A root command and makers that fit together; it does not change."""

    def __init__(self, root, makers):
        clash = first_clash(root)
        if clash is not None:
            raise Clash(clash[0], clash[1], clash[2])
        found = made_ones_within(root, [])
        refuse_missing_maker(found, makers)
        refuse_bad_default(found, makers)
        self.held_root = root
        self.held_makers = makers

    def root(self):
        return self.held_root

    def makers(self):
        return self.held_makers
