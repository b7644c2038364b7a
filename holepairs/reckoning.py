"""The reckoning: what is left of each piece, its sum, and the pairs."""

from holepairs.pieces import added


def reduced(shape):
    """List for each piece what is left of it, and its sum."""
    told = []
    by_last = {}
    for number in range(shape.many()):
        left = shape.sides_of(number)
        total = [number]
        while left and left[-1] in by_last:
            earlier_left, earlier_total = told[by_last[left[-1]]]
            left = added(left, earlier_left)
            total = added(total, earlier_total)
        if left:
            by_last[left[-1]] = number
        told.append((left, total))
    return told


def pairs(shape):
    """Give the pairs of maker and filler, and the makers that nothing fills."""
    found = []
    for filler, (left, _) in enumerate(reduced(shape)):
        if left:
            found.append((left[-1], filler))
    return with_unfilled(found, shape.many())


def pairs_from_behind(shape):
    """Give what `pairs` gives, reckoned from the last piece to the first."""
    found = []
    by_least = {}
    for maker in reversed(range(shape.many())):
        left = shape.uppers_of(maker)
        while left and left[0] in by_least:
            left = added(left, by_least[left[0]])
        if left:
            by_least[left[0]] = left
            found.append((maker, left[0]))
    return with_unfilled(found, shape.many())


def with_unfilled(found, many):
    """Give the pairs that were found, rising, and the numbers that are in none."""
    # Every filler is in a pair, so what is in none is a maker.
    paired = {number for pair in found for number in pair}
    return sorted(found), [number for number in range(many) if number not in paired]
