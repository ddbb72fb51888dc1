"""The errors of the package.

The messages are fixed: a value that is kept can be one that has no short text.
"""


class NamesError(ValueError):
    """A value that is not of the kind, or in the form, that was asked for."""


class InvalidMove(NamesError):
    """A value that is no move, or a move of another size."""


class InvalidGroup(NamesError):
    """A value that is no group, or no rows of one."""


class InvalidTable(NamesError):
    """A value that is no table, or no rows or dots of one."""


class InvalidWord(NamesError):
    """A value that is no word."""


class InvalidVector(NamesError):
    """A value that is no vector."""


class InvalidDouble(NamesError):
    """A value that is no double, or no turns of one."""


class InvalidRing(NamesError):
    """A value that is no ring product."""


class InvalidStrings(NamesError):
    """A value that is no string word."""


class InvalidWeights(NamesError):
    """A value that is no weights."""


class InvalidOperation(NamesError):
    """A value that is no lot of things, or that cannot be worked with."""


class ParseError(NamesError):
    """A text that cannot be read; keeps the spot."""

    def __init__(self, spot):
        super().__init__("the text is wrong at the kept spot")
        self.spot = spot


class InvalidNumber(IndexError):
    """A value that is no integer, or one beyond its bounds; keeps the value."""

    def __init__(self, value):
        super().__init__("the kept value is no number that can stand here")
        self.value = value


class UnknownName(KeyError):
    """A name under which nothing is kept; keeps the name."""

    def __init__(self, name):
        super().__init__("nothing stands under the kept name")
        self.name = name


class TooMany(OverflowError):
    """A result or a task beyond a limit; keeps the limit."""

    def __init__(self, limit):
        super().__init__("there is more than the kept limit allows")
        self.limit = limit


class Refused(ArithmeticError):
    """A value of the right form that breaks a rule; keeps the reason."""

    def __init__(self, reason):
        super().__init__("a rule is broken, as the kept reason tells")
        self.reason = reason


class NothingToUndo(LookupError):
    """Fewer deeds than were asked for; keeps how many were asked for."""

    def __init__(self, times):
        super().__init__("there are fewer deeds than the kept number")
        self.times = times
