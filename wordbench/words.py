"""Kinds of words, and the parts of a long one."""

DIVIDER = "--"


def kind_of(word):
    if word == DIVIDER:
        return "divider"
    if word.startswith("--"):
        return "long"
    if word.startswith("-") and len(word) > 1:
        return "shorts"
    return "plain"


def long_parts(word):
    """The name and the value of a long word; None as the value where there is no sign = in it."""
    name, sign, value = word[2:].partition("=")
    return (name, None if sign == "" else value)
