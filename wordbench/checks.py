"""What the arguments of options, places and commands have to be.

Each function answers for whatever is handed in, so it asks for the kind of
a value before anything else is done with it.
"""

SMALL_LETTERS = "abcdefghijklmnopqrstuvwxyz"
LETTERS = SMALL_LETTERS + "ABCDEFGHIJKLMNOPQRSTUVWXYZ"
NAME_SIGNS = SMALL_LETTERS + "0123456789-"
MOST_NAME_SIGNS = 10
MOST_ABOUT_SIGNS = 200
MOST_DEFAULT_SIGNS = 60


def is_text_within(value, most):
    return isinstance(value, str) and len(value) <= most


def is_name(value):
    if not is_text_within(value, MOST_NAME_SIGNS) or value == "":
        return False
    if value.startswith("-") or value.endswith("-") or value.startswith("no-"):
        return False
    return all([sign in NAME_SIGNS for sign in value])


def is_short_or_empty(value):
    # Every text of at most one sign that stands within LETTERS is a letter or empty.
    return is_text_within(value, 1) and value in LETTERS


def is_about(value):
    if not is_text_within(value, MOST_ABOUT_SIGNS):
        return False
    return value == "" or "" not in value.split(" ")


def is_among(value, texts):
    return isinstance(value, str) and value in texts


def is_default(value, allowed):
    """None, or, where a default is allowed, a text that is not too long."""
    if value is None:
        return True
    return allowed and is_text_within(value, MOST_DEFAULT_SIGNS)


def is_truth(value, allowed):
    """False, or, where that is allowed, True."""
    return isinstance(value, bool) and (allowed or not value)


def is_list_within(value, most):
    return isinstance(value, list) and len(value) <= most


def comma_joined(values):
    return ", ".join([repr(value) for value in values])
