"""The refusals."""


class HoleError(ValueError):
    """Any refusal."""


class BadRow(HoleError):
    """What should be a list of pieces is no list."""


class BadPiece(HoleError):
    """What should become the piece of number `at` is no piece."""

    def __init__(self, at):
        HoleError.__init__(self, f"what should get number {at} is no piece")
        self.at = at


class Twice(HoleError):
    """What should become the piece of number `at` stands already."""

    def __init__(self, at):
        HoleError.__init__(self, f"the piece that should get number {at} stands already")
        self.at = at


class Lacking(HoleError):
    """A side of what should become the piece of number `at` doesn't stand."""

    def __init__(self, at, side):
        HoleError.__init__(self, f"the piece that should get number {at} lacks its side {side}")
        self.at = at
        self.side = side


class Full(HoleError):
    """The shape has as many pieces as a shape can have."""


class NoPiece(HoleError):
    """There is no piece of that number, or no such time or maker."""


class BadTurn(HoleError):
    """Two neighbours can't change places: the one is a side of the other."""


class BadText(HoleError):
    """The line of number `line`, from 1, writes no corners."""

    def __init__(self, line):
        HoleError.__init__(self, f"line {line} writes no corners")
        self.line = line
