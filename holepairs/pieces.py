"""Pieces, their sides, and the sum of two heaps."""

MOST_CORNERS = 4
LARGEST_CORNER = 10 ** 60


def is_whole(thing):
    """Tell of anything whether it is a whole number."""
    # The very kind is asked for: True and False would pass as ints otherwise,
    # and so would things that only claim to be ints. It is asked for by `is`,
    # here and elsewhere: by `==` the kind itself would answer, and as it likes.
    return type(thing) is int


def is_piece(thing):
    """Tell of anything whether it is a piece."""
    if type(thing) is not tuple or not 1 <= len(thing) <= MOST_CORNERS:
        return False
    if not all([is_corner(corner) for corner in thing]):
        return False
    return all([low < high for low, high in zip(thing, thing[1:])])


def is_corner(thing):
    """Tell of anything whether it can be a corner."""
    return is_whole(thing) and 0 <= thing <= LARGEST_CORNER


def sides(piece):
    """List the sides of a piece, rising."""
    if len(piece) == 1:
        return []
    # Without its last corner a piece is least: the other corners stay ahead.
    return [piece[:at] + piece[at + 1:] for at in reversed(range(len(piece)))]


def added(one, other):
    """Give the sum of two heaps: the numbers that stand in just one of them."""
    return sorted(set(one) ^ set(other))
