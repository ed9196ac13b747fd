"""The errors of the package, each with the fields that the document names."""


class BenchError(ValueError):
    """Any refusal but Unmade."""


class NoOption(BenchError):
    """What was handed in makes no option; field is the first wrong argument."""

    def __init__(self, field):
        self.field = field


class NoPlace(BenchError):
    """What was handed in makes no place; field is the first wrong argument."""

    def __init__(self, field):
        self.field = field


class NoCommand(BenchError):
    """What was handed in makes no command; field is the first wrong argument."""

    def __init__(self, field):
        self.field = field


class Clash(BenchError):
    """A bench's commands clash: where is the path, kind and who as first_clash tells."""

    def __init__(self, where, kind, who):
        # A copy, since the one who catches the error may change its list.
        self.where = list(where)
        self.kind = kind
        self.who = who


class NoRow(BenchError):
    """A text that is written of no row of words."""


class NoName(BenchError):
    """A name, who, by which there is nothing."""

    def __init__(self, who):
        self.who = who


class NoMaker(BenchError):
    """A maker, who, that is not there or is not as it has to be."""

    def __init__(self, who):
        self.who = who


class BadDefault(BenchError):
    """A default of which its maker makes nothing: where is the path, why the maker's text."""

    def __init__(self, where, who, why):
        # A copy, since the one who catches the error may change its list.
        self.where = list(where)
        self.who = who
        self.why = why


class Fault(BenchError):
    """A row can't be read: at is the number of the word, kind the class's name in small letters."""

    def __init__(self, at, who, kind):
        self.at = at
        self.who = who
        # A field, since no class can be asked for its name.
        self.kind = kind


class Unknown(Fault):
    """A word, or a part of it, that means nothing."""

    def __init__(self, at, who):
        Fault.__init__(self, at, who, "unknown")


class Unclear(Fault):
    """A word that means several names, some."""

    def __init__(self, at, who, some):
        Fault.__init__(self, at, who, "unclear")
        # A copy, since the one who catches the error may change its list.
        self.some = list(some)


class Unwanted(Fault):
    """A value for an option that takes none."""

    def __init__(self, at, who):
        Fault.__init__(self, at, who, "unwanted")


class Again(Fault):
    """An option said twice that may be said once."""

    def __init__(self, at, who):
        Fault.__init__(self, at, who, "again")


class Together(Fault):
    """An option said beside another one, other, of its group."""

    def __init__(self, at, who, other):
        Fault.__init__(self, at, who, "together")
        self.other = other


class NoValue(Fault):
    """An option that awaits a value and gets none."""

    def __init__(self, at, who):
        Fault.__init__(self, at, who, "novalue")


class BadValue(Fault):
    """A word of which its maker makes nothing; why is the maker's text."""

    def __init__(self, at, who, word, why):
        Fault.__init__(self, at, who, "badvalue")
        self.word = word
        self.why = why


class Lacks(Fault):
    """A needed option or place that is not said."""

    def __init__(self, at, who):
        Fault.__init__(self, at, who, "lacks")


class Spare(Fault):
    """A word for which there is no place."""

    def __init__(self, at, who):
        Fault.__init__(self, at, who, "spare")


class Unnamed(Fault):
    """A row that ends ahead of the name of a command beneath."""

    def __init__(self, at, who):
        Fault.__init__(self, at, who, "unnamed")


class Unmade(ValueError):
    """Raised by a maker that makes nothing of a word."""

    def __init__(self, why=""):
        self.why = why
