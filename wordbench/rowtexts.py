"""Rows of words written as texts, and read back."""

from wordbench.errors import NoRow


def needs_quotes(word):
    return word == "" or " " in word or "'" in word


def word_text(word):
    if not needs_quotes(word):
        return word
    doubled = word.replace("'", "''")
    return f"'{doubled}'"


def row_text(words):
    return " ".join([word_text(word) for word in words])


def cut_between_words(text):
    parts = []
    begin = 0
    quoted = False
    for at, sign in enumerate(text):
        if sign == "'":
            # A doubled one closes and begins again, so it needs no case of its own.
            quoted = not quoted
        elif sign == " " and not quoted:
            parts.append(text[begin:at])
            begin = at + 1
    parts.append(text[begin:])
    return parts


def word_of(part):
    if part.startswith("'"):
        return part[1:-1].replace("''", "'")
    return part


def words_of(text):
    if not isinstance(text, str):
        raise NoRow("no text")
    if text == "":
        return []
    words = [word_of(part) for part in cut_between_words(text)]
    # The reading above takes any text; only one that is written of its own words is a row's.
    if row_text(words) != text:
        raise NoRow("a text that is written of no row")
    return words
