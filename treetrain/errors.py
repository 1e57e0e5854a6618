"""The errors of the package: three families, and the errors directly under them."""


class RailError(ValueError):
    """The family of the errors about values that are not as described."""


class RunError(RuntimeError):
    """The family of the errors about what cannot be done."""


class MissingError(LookupError):
    """The family of the errors about what is not there."""


class InvalidTracks(RailError):
    """The tracks are no railway; the position is the index of the first wrong one, or None."""

    def __init__(self, position=None):
        self.position = position


class InvalidStation(RailError):
    """The value is not a station of the railway."""

    def __init__(self, value):
        self.value = value


class InvalidLength(RailError):
    """The value is not a length that is possible here."""

    def __init__(self, value):
        self.value = value


class InvalidStanding(RailError):
    """The value is not a standing on the railway."""

    def __init__(self, value):
        self.value = value


class InvalidMove(RailError):
    """The moves are not moves; the position is the index of the first wrong one, or None."""

    def __init__(self, position=None):
        self.position = position


class InvalidPair(RailError):
    """The value is a pair of equal stations."""

    def __init__(self, value):
        self.value = value


class InvalidLine(RailError):
    """The value is not a line of the railway."""

    def __init__(self, value):
        self.value = value


class InvalidAnswer(RailError):
    """The answer is not a decision; the part tells what is wrong about it."""

    def __init__(self, part):
        self.part = part


class InvalidOrder(RailError):
    """The value is not an order of the stations."""

    def __init__(self, value):
        self.value = value


class InvalidCount(RailError):
    """The value is not a count that is possible here."""

    def __init__(self, value):
        self.value = value


class InvalidText(RailError):
    """The text is wrong first at this row and this word of the row, counted from 1."""

    def __init__(self, row, word):
        self.row = row
        self.word = word


class Blocked(RunError):
    """The move with this index is not possible."""

    def __init__(self, position):
        self.position = position


class NoWay(RunError):
    """There is no way; the reason is a decision that is not a way."""

    def __init__(self, reason):
        self.reason = reason


class OtherLength(RunError):
    """Two standings have different lengths, which are the spans."""

    def __init__(self, spans):
        self.spans = spans


class OutOfFuel(RunError):
    """There is less fuel than is needed."""

    def __init__(self, needed):
        self.needed = needed


class TooShort(RunError):
    """What would be shortened is shorter than the least that can be shortened."""

    def __init__(self, least):
        self.least = least


class TooMany(RunError):
    """There are more stations than the limit allows."""

    def __init__(self, limit):
        self.limit = limit


class StillJoined(RunError):
    """The station with this number has more than one neighbour."""

    def __init__(self, value):
        self.value = value


class NothingToUndo(MissingError):
    """There are only so many steps, too few to take one back."""

    def __init__(self, count):
        self.count = count
