"""The errors of the package."""


class NeedError(ValueError):
    """The ground of the errors that tell of an invalid value."""


class InvalidWord(NeedError):
    """This is no word."""


class InvalidTerm(NeedError):
    """This is no term, or not one of those that are asked for."""


class InvalidBook(NeedError):
    """This is no book."""


class InvalidProgram(NeedError):
    """This is no program."""


class InvalidTable(NeedError):
    """This is no table, or no state of one."""


class InvalidLines(NeedError):
    """These are no lines."""


class InvalidRows(NeedError):
    """These are no rows."""


class InvalidOperation(NeedError):
    """This cannot be done with what was passed."""


class ParseError(NeedError):
    """A text that tells nothing: the index of its line, or None."""

    def __init__(self, line):
        self.line = line


class UnknownWord(KeyError):
    """A word that was asked for and is not there."""

    def __init__(self, asked):
        self.asked = asked


class UnknownPlace(LookupError):
    """A place that was asked for and is not there."""

    def __init__(self, spot):
        self.spot = spot


class NothingToUndo(IndexError):
    """So many changes cannot be taken back, or done again."""

    def __init__(self, amount):
        self.amount = amount


class TooMany(OverflowError):
    """There is more than this limit lets."""

    def __init__(self, limit):
        self.limit = limit


class Refused(ArithmeticError):
    """What was asked is refused for this cause."""

    def __init__(self, cause):
        self.cause = cause


class InvalidNumber(RuntimeError):
    """This is no number of those that are asked for."""

    def __init__(self, number):
        self.number = number
