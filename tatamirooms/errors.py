"""The errors that the package raises."""


class NoPoint(LookupError):
    """A pair of numbers that is no POINT of the ROOM."""

    def __init__(self, point):
        LookupError.__init__(self, point)
        self.point = point


class NoSquare(LookupError):
    """A pair of numbers that is no SQUARE of the ROOM."""

    def __init__(self, square):
        LookupError.__init__(self, square)
        self.square = square


class NothingDone(LookupError):
    """Nothing is there that could be taken back, or done once more."""

    def __init__(self):
        LookupError.__init__(self)


class BadText(ValueError):
    """A text with a fault in one of its lines."""

    def __init__(self, line):
        ValueError.__init__(self, line)
        self.line = line


class Broken(ValueError):
    """A number that tells none of what is numbered."""

    def __init__(self, number):
        ValueError.__init__(self, number)
        self.number = number


class CanNot(ValueError):
    """What is asked for is not there."""

    def __init__(self):
        ValueError.__init__(self)


class TooMany(ValueError):
    """What is asked for is too great."""

    def __init__(self):
        ValueError.__init__(self)


class Unfit(ValueError):
    """What was handed in is not as it must be."""

    def __init__(self):
        ValueError.__init__(self)
