"""Shapes: rows of pieces, each behind all its sides."""

from holepairs.errors import BadPiece, BadRow, BadTurn, Full, Lacking, NoPiece, Twice
from holepairs.pieces import added, is_piece, is_whole, sides

MOST_PIECES = 200


def is_number_below(thing, limit):
    """Tell of anything whether it is a whole number from 0 and below the limit."""
    return is_whole(thing) and 0 <= thing < limit


class Shape:
    """A row of unlike pieces, numbered from 0 in the order in which they came."""

    def __init__(self, pieces=None):
        row = [] if pieces is None else pieces
        if type(row) is not list:
            raise BadRow("the pieces of a shape come in a list")
        self._pieces = []
        self._numbers = {}
        self._sides = []
        for piece in row:
            self.put(piece)

    def put(self, piece):
        """Let a piece come as the last one, and give its number."""
        at = len(self._pieces)
        if not is_piece(piece):
            raise BadPiece(at)
        if piece in self._numbers:
            raise Twice(at)
        around = sides(piece)
        for side in around:
            if side not in self._numbers:
                raise Lacking(at, side)
        if at >= MOST_PIECES:
            raise Full("a shape has as many pieces as it can have")
        self._pieces.append(piece)
        self._numbers[piece] = at
        self._sides.append(sorted([self._numbers[side] for side in around]))
        return at

    def cut(self):
        """Let the last piece go, and give it."""
        if not self._pieces:
            raise NoPiece("there is no piece that could go")
        piece = self._pieces.pop()
        self._sides.pop()
        del self._numbers[piece]
        return piece

    def many(self):
        """Give how many pieces have come."""
        return len(self._pieces)

    def pieces(self):
        """List the pieces by their numbers."""
        return list(self._pieces)

    def piece(self, number):
        """Give the piece of a number."""
        self._check(number)
        return self._pieces[number]

    def size(self, number):
        """Give how many corners a piece has, less one."""
        return len(self.piece(number)) - 1

    def sides_of(self, number):
        """List the numbers of a piece's sides, rising."""
        self._check(number)
        return list(self._sides[number])

    def uppers_of(self, number):
        """List the numbers of the pieces of which a piece is a side, rising."""
        self._check(number)
        # A piece stands behind all its sides, so no earlier one needs a look.
        later = range(number + 1, len(self._pieces))
        return [upper for upper in later if number in self._sides[upper]]

    def border(self, numbers):
        """Give the border of a heap: the sum of the heaps of its pieces' sides."""
        total = []
        for number in numbers:
            total = added(total, self.sides_of(number))
        return total

    def _check(self, number):
        """Refuse what is no number of a piece."""
        if not is_number_below(number, len(self._pieces)):
            raise NoPiece("there is no piece of that number")


def exchanged(shape, number):
    """Give another shape, in which a piece and the next one have changed places."""
    if not is_number_below(number, shape.many() - 1):
        raise NoPiece("there are no two pieces of that number and the next one")
    if number in shape.sides_of(number + 1):
        raise BadTurn("a piece can't stand ahead of its side")
    row = shape.pieces()
    row[number], row[number + 1] = row[number + 1], row[number]
    return Shape(row)
