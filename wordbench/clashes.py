"""The first clash of a command and all beneath it.

Each function that looks for one kind tells who has that clash, or None: a
text without signs may be the one who has it.
"""

MOST_NAMES_IN_PATH = 4


def first_repeated(texts, ahead):
    """The first of the texts that is among those ahead of it."""
    seen = list(ahead)
    for text in texts:
        if text in seen:
            return text
        seen.append(text)
    return None


def long_names(command):
    return [option.long() for option in command.options()]


def long_clash(command):
    return first_repeated(long_names(command), [])


def short_clash(command):
    shorts = [option.short() for option in command.options()]
    return first_repeated([short for short in shorts if short != ""], [])


def name_clash(command):
    return first_repeated([place.name() for place in command.places()], long_names(command))


def may_stand_behind(many, ahead):
    if "some" in ahead or "any" in ahead:
        return False
    return "maybe" not in ahead or many in ("maybe", "any")


def order_clash(command):
    ahead = []
    for place in command.places():
        if not may_stand_behind(place.many(), ahead):
            return place.name()
        ahead.append(place.many())
    return None


def both_clash(command):
    if len(command.places()) > 0 and len(command.commands()) > 0:
        return command.name()
    return None


def group_clash(command):
    groupable = [option.long() for option in command.options() if not option.needed()]
    ahead = []
    for group in command.groups():
        for text in group:
            if text not in groupable or text in ahead:
                return text
            ahead.append(text)
    return None


def command_clash(command):
    return first_repeated([beneath.name() for beneath in command.commands()], [])


LOOKED_FOR = (
    ("long", long_clash),
    ("short", short_clash),
    ("name", name_clash),
    ("order", order_clash),
    ("both", both_clash),
    ("group", group_clash),
    ("command", command_clash),
)


def own_clash(command, path):
    if len(path) > MOST_NAMES_IN_PATH:
        return (path, "deep", command.name())
    for kind, look in LOOKED_FOR:
        who = look(command)
        if who is not None:
            return (path, kind, who)
    return None


def clash_within(command, above):
    """The first clash of a command that stands beneath those whose names are above."""
    path = above + [command.name()]
    clash = own_clash(command, path)
    if clash is not None:
        return clash
    for beneath in command.commands():
        clash = clash_within(beneath, path)
        if clash is not None:
            return clash
    return None


def first_clash(command):
    return clash_within(command, [])
