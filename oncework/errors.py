"""The errors that the package raises."""


class WorkError(ValueError):
    """A value that is not what the document asks for."""


class InvalidTerm(WorkError):
    """A value that is no term, or too large a one."""


class InvalidPlace(WorkError):
    """A value that is not the place that is wanted."""


class InvalidHistory(WorkError):
    """A value that is no history of the term."""


class InvalidLot(WorkError):
    """A value that is no lot of the term."""


class InvalidName(WorkError):
    """A value that is no name for the letters of the term."""


class InvalidWalk(WorkError):
    """A value that is no walk of the term."""


class InvalidOperation(WorkError):
    """A call that makes no sense for a valid value."""


class ParseError(WorkError):
    """A text that cannot be read; `spot` tells where it goes wrong."""

    def __init__(self, spot):
        self.spot = spot


class InvalidNumber(IndexError):
    """A value that is no number within the told bounds: `given`."""

    def __init__(self, given):
        self.given = given


class UnknownName(KeyError):
    """A name that was asked for and is not known: `asked`."""

    def __init__(self, asked):
        self.asked = asked


class NothingToUndo(LookupError):
    """Fewer deeds stand than are to be taken back: `wanted`."""

    def __init__(self, wanted):
        self.wanted = wanted


class TooMany(OverflowError):
    """A result that is larger than the bound: `limit`."""

    def __init__(self, limit):
        self.limit = limit


class Refused(ArithmeticError):
    """Something that is refused; `reason` tells why."""

    def __init__(self, reason):
        self.reason = reason
