"""Holes: from when to when they are there, how many, and what shows them."""

from holepairs.errors import NoPiece
from holepairs.pieces import MOST_CORNERS
from holepairs.reckoning import pairs, reduced
from holepairs.shapes import is_number_below


def bars(shape):
    """List the size, the maker and the filler of each hole, by makers."""
    found, unfilled = pairs(shape)
    ends = found + [(maker, None) for maker in unfilled]
    return [(shape.size(maker), maker, filler) for maker, filler in sorted(ends, key=lambda end: end[0])]


def open_at(shape, time):
    """List the makers of the holes that are there at a time, rising."""
    if not is_number_below(time, shape.many() + 1):
        raise NoPiece("there is no such time")
    return [maker for _, maker, filler in bars(shape)
            if maker < time and (filler is None or filler >= time)]


def counts(shape, time):
    """List for each size how many holes of it are there at a time."""
    told = [0] * MOST_CORNERS
    for maker in open_at(shape, time):
        told[shape.size(maker)] += 1
    return told


def shown(shape, maker):
    """Give the ring that shows a hole, and its filler's sum or None."""
    if not is_number_below(maker, shape.many()):
        raise NoPiece("there is no piece of that number")
    rows = reduced(shape)
    own_left, own_sum = rows[maker]
    if own_left:
        raise NoPiece("the piece of that number makes no hole")
    for left, total in rows:
        if left and left[-1] == maker:
            return left, total
    return own_sum, None
