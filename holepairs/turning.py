"""Turning: what becomes of the pairs when neighbours change places."""

from holepairs.reckoning import pairs
from holepairs.shapes import exchanged


def turn_word(shape, number):
    """Tell whether a piece and the next one keep what they make or fill, or swap it."""
    turned, _ = pairs(exchanged(shape, number))
    found, _ = pairs(shape)
    places = {number: number + 1, number + 1: number}
    moved = [(places.get(maker, maker), places.get(filler, filler)) for maker, filler in found]
    # Where neither piece is in a pair both hold, and then it is "same".
    return "same" if sorted(moved) == turned else "swapped"
