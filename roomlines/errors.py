"""The errors that the package raises by itself."""


class RoomError(ValueError):
    """A value that has not the form that is asked for."""


class InvalidWord(RoomError):
    """A value that is no word of the letters."""


class InvalidHeight(RoomError):
    """A value that is neither a word nor an endless word of the letters."""


class InvalidMachine(RoomError):
    """A value that is no machine, or does not make one."""


class InvalidReader(RoomError):
    """A value that is no reader, or does not make one."""


class InvalidRooms(RoomError):
    """A value that is no ascending tuple of rooms."""


class InvalidLines(RoomError):
    """A value that is no choice of lines."""


class InvalidOrder(RoomError):
    """A value that is no order."""


class InvalidOperation(RoomError):
    """Values that are right by themselves, but do not go together."""


class InvalidName(RoomError):
    """A value that is no name."""


class ParseError(RoomError):
    """A text that cannot be read, with the spot at which it fails."""

    def __init__(self, spot):
        self.spot = spot


class InvalidNumber(IndexError):
    """A value that is no integer within the bounds."""

    def __init__(self, given):
        self.given = given


class UnknownName(KeyError):
    """A value that is not one of the names."""

    def __init__(self, wanted):
        self.wanted = wanted


class TooMany(OverflowError):
    """More than the limit allows."""

    def __init__(self, limit):
        self.limit = limit


class Refused(ArithmeticError):
    """What cannot be made, with the reason."""

    def __init__(self, reason):
        self.reason = reason


class NothingToUndo(LookupError):
    """More steps than can be taken back or done again."""

    def __init__(self, steps):
        self.steps = steps
