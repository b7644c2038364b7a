"""Keeping: a shape that tells at each piece what it makes or fills."""

from holepairs.holes import counts
from holepairs.reckoning import pairs, reduced
from holepairs.shapes import Shape


class Keeper:
    """A shape that grows from nothing, and its pairs and counts as they are now."""

    def __init__(self):
        self._shape = Shape()

    def put(self, piece):
        """Let a piece come as the last one, and tell what it makes or fills."""
        number = self._shape.put(piece)
        # Reckoned anew each time, so that a cut has nothing to undo but the piece.
        left, _ = reduced(self._shape)[number]
        if left:
            return "fills", left[-1]
        return "makes", self._shape.size(number)

    def cut(self):
        """Let the last piece go, and give it."""
        return self._shape.cut()

    def shape(self):
        """Give another shape, as this one is now."""
        return Shape(self._shape.pieces())

    def pairs_now(self):
        """Give the pairs of maker and filler, and the makers that nothing fills."""
        return pairs(self._shape)

    def counts_now(self):
        """List for each size how many holes of it are there now."""
        return counts(self._shape, self._shape.many())
