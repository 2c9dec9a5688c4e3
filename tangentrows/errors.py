"""The errors of this package."""


class TangentError(ValueError):
    """The base of the errors about values of a wrong kind."""


class InvalidForm(TangentError):
    """A value that is no form, or no form that fits."""


class InvalidLine(TangentError):
    """A value that is no line."""


class InvalidPoint(TangentError):
    """A value that is no point."""


class InvalidLot(TangentError):
    """A value that is no lot, or no lot that fits."""


class InvalidMarks(TangentError):
    """A value that is no marks."""


class InvalidPair(TangentError):
    """A value that is no pair, or no pair that fits."""


class InvalidRow(TangentError):
    """A value that is no row, or no row that fits."""


class InvalidTable(TangentError):
    """A value that is no table, or no table that fits."""


class InvalidWeb(TangentError):
    """A value that is no web, or no ties of one."""


class InvalidPromise(TangentError):
    """A value that is no promise."""


class InvalidOperation(TangentError):
    """A call that is not possible with these values."""


class ParseError(TangentError):
    """A text that cannot be read, with the index at which it is wrong."""

    def __init__(self, index):
        self.index = index


class InvalidNumber(IndexError):
    """A value that is not one of the numbers that are let."""

    def __init__(self, given):
        self.given = given


class UnknownName(KeyError):
    """A name that nothing has."""

    def __init__(self, wanted):
        self.wanted = wanted


class TooMany(OverflowError):
    """More than there may be, with the most that there may be."""

    def __init__(self, most):
        self.most = most


class Refused(ArithmeticError):
    """A result that does not exist, with a tuple that tells why."""

    def __init__(self, reason):
        self.reason = reason


class NothingToUndo(LookupError):
    """More steps back than there were steps."""

    def __init__(self, steps):
        self.steps = steps
