"""The errors that the program raises."""


class InterlineError(ValueError):
    """The base class of them all, not raised itself."""


class ArgumentError(InterlineError):
    """An argument is not what it should be; the reason names it."""

    def __init__(self, reason):
        self.reason = reason


class PaperError(InterlineError):
    """A told value does not prove what it should prove."""

    def __init__(self, reason):
        self.reason = reason


class SaleError(InterlineError):
    """A deed that an office cannot do."""

    def __init__(self, reason):
        self.reason = reason


class TooMany(InterlineError):
    """There is more to visit than the limits allow."""

    def __init__(self, reason):
        self.reason = reason


class TextError(InterlineError):
    """A text cannot be read, from the character with this index on."""

    def __init__(self, at):
        self.at = at


class NetError(InterlineError):
    """A net breaks a rule; the path tells the part and the place of the row."""

    def __init__(self, path, reason):
        self.path = path
        self.reason = reason


class LogError(InterlineError):
    """The entry with this number, from 0, cannot be done."""

    def __init__(self, number, reason):
        self.number = number
        self.reason = reason


class CommandError(InterlineError):
    """A line is no command of a session."""

    def __init__(self, line):
        self.line = line
