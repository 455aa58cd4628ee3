"""The errors that the package raises."""


class PlayError(ValueError):
    """Something that was passed is not what it should be."""


class InvalidBound(PlayError):
    """Not a bound."""


class InvalidPoint(PlayError):
    """Not a point, a pause or a fraction."""


class InvalidLot(PlayError):
    """Not a lot."""


class InvalidArea(PlayError):
    """Not an area."""


class InvalidField(PlayError):
    """Not a field of the machine."""


class InvalidMachine(PlayError):
    """Not a machine."""


class InvalidStanding(PlayError):
    """Not a standing of the machine."""


class InvalidPlaces(PlayError):
    """Not an ascending tuple of places."""


class InvalidName(PlayError):
    """Not a name."""


class InvalidText(PlayError):
    """Not a text that can be read."""


class InvalidOperation(PlayError):
    """What is asked cannot be done with what was passed."""


class ParseError(PlayError):
    """A line that cannot stand where it stands."""

    def __init__(self, spot):
        self.spot = spot


class InvalidNumber(IndexError):
    """A number that is not one of those let."""

    def __init__(self, given):
        self.given = given


class UnknownName(KeyError):
    """A name that nothing has."""

    def __init__(self, asked):
        self.asked = asked


class NothingToUndo(LookupError):
    """More is to be undone than was done."""

    def __init__(self, wanted):
        self.wanted = wanted


class TooMany(OverflowError):
    """More than a limit lets."""

    def __init__(self, limit):
        self.limit = limit


class Refused(ArithmeticError):
    """A deed that is refused, with the reason."""

    def __init__(self, reason):
        self.reason = reason
