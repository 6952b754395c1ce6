"""The errors of the package."""


class RiseError(ValueError):
    """A value does not have the form that is asked for."""


class InvalidRow(RiseError):
    """A value is no row."""


class InvalidMix(RiseError):
    """A value is no mix, or does not tell one."""


class InvalidRatio(RiseError):
    """A value is no ratio."""


class InvalidTable(RiseError):
    """A value is no table."""


class InvalidLetters(RiseError):
    """A value does not tell letters."""


class InvalidOrder(RiseError):
    """A value does not tell an order."""


class InvalidOperation(RiseError):
    """What is asked for is not there for these values."""


class ParseError(RiseError):
    """A string is no text: the part at `spot` cannot stand there."""

    def __init__(self, spot):
        self.spot = spot


class InvalidNumber(IndexError):
    """The value `given` is no integer within the bounds."""

    def __init__(self, given):
        self.given = given


class UnknownName(KeyError):
    """The value `name` is none of the words that are known."""

    def __init__(self, name):
        self.name = name


class TooMany(OverflowError):
    """More than `limit` of something."""

    def __init__(self, limit):
        self.limit = limit


class Refused(ArithmeticError):
    """What is asked for is refused; `reason` is a tuple that begins with a word."""

    def __init__(self, reason):
        self.reason = reason


class NothingToUndo(LookupError):
    """Fewer than `steps` deeds can be taken back or done again."""

    def __init__(self, steps):
        self.steps = steps
