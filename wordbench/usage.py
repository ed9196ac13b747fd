"""Usage and help of a command, and words filled into lines."""

from wordbench.errors import NoName
from wordbench.options import is_valued

MOST_LABEL_SIGNS = 20
FEWEST_ABOUT_SIGNS = 10


def filled(words, width, first="", later=""):
    lines = [first]
    for number, word in enumerate(words):
        if number == 0:
            lines[-1] += word
        elif len(lines[-1]) + 1 + len(word) <= width:
            lines[-1] += " " + word
        else:
            lines.append(later + word)
    return lines


def command_with_path(bench, path):
    if len(path) == 0:
        raise NoName("")
    there = [bench.root()]
    for name in path:
        found = [command for command in there if command.name() == name]
        if len(found) == 0:
            raise NoName(name)
        there = found[0].commands()
    return found[0]


def long_text(option):
    """An option as it is said by a long word."""
    off = "[no-]" if option.off() else ""
    value = f"={option.maker().upper()}" if is_valued(option) else ""
    return f"--{off}{option.long()}{value}"


def option_word(option):
    short = "" if option.short() == "" else f"-{option.short()}|"
    more = ".." if option.takes() in ("count", "each") else ""
    word = f"{short}{long_text(option)}{more}"
    return word if option.needed() else f"[{word}]"


def place_word(place):
    more = ".." if place.many() in ("some", "any") else ""
    word = f"{place.name().upper()}{more}"
    return f"[{word}]" if place.many() in ("maybe", "any") else word


def usage(bench, path, width=72):
    command = command_with_path(bench, path)
    words = path + [option_word(option) for option in command.options()]
    words += [place_word(place) for place in command.places()]
    if len(command.commands()) > 0:
        words.append("COMMAND")
    return filled(words, width, "", "    ")


def option_label(option):
    short = "    " if option.short() == "" else f"-{option.short()}, "
    return short + long_text(option)


def sections(command):
    """For each part of a help its title, and the labels and abouts that stand beneath it."""
    options = [(option_label(option), option.about()) for option in command.options()]
    places = [(place.name().upper(), place.about()) for place in command.places()]
    commands = [(beneath.name(), beneath.about()) for beneath in command.commands()]
    return [("options:", options), ("places:", places), ("commands:", commands)]


def column_of(parts):
    """Where abouts begin: what has a longer label stands alone, so it does not count."""
    sizes = [len(label) for title, entries in parts for label, about in entries]
    return 4 + max([size for size in sizes if size <= MOST_LABEL_SIGNS], default=0)


def entry_lines(label, about, column, width):
    line = f"  {label}"
    if about == "":
        return [line]
    words = about.split(" ")
    wide = max(width, column + FEWEST_ABOUT_SIGNS)
    blanks = " " * column
    if len(label) > MOST_LABEL_SIGNS:
        return [line] + filled(words, wide, blanks, blanks)
    return filled(words, wide, line.ljust(column), blanks)


def helped(bench, path, width=72):
    command = command_with_path(bench, path)
    lines = usage(bench, path, width)
    if command.about() != "":
        lines += [""] + filled(command.about().split(" "), width)
    parts = sections(command)
    column = column_of(parts)
    for title, entries in parts:
        if len(entries) > 0:
            lines += ["", title]
        for label, about in entries:
            lines += entry_lines(label, about, column, width)
    return lines
