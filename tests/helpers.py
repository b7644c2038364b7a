"""Shapes and odd things that several tests need."""

from itertools import combinations
from random import Random

from holepairs.shapes import Shape

POINT_ROW = [(0,), (1,), (2,), (3,)]
EDGE_ROW = [(0, 1), (0, 2), (0, 3), (1, 2), (1, 3), (2, 3)]
FACE_ROW = [(0, 1, 2), (0, 1, 3), (0, 2, 3), (1, 2, 3)]
HOLLOW_ROW = POINT_ROW + EDGE_ROW + FACE_ROW
FILLED_ROW = HOLLOW_ROW + [(0, 1, 2, 3)]
OUTLINE_ROW = [(0,), (1,), (2,), (0, 1), (0, 2), (1, 2)]
TRIANGLE_ROW = OUTLINE_ROW + [(0, 1, 2)]

# A way through four corners, out of order, so that sums are longer than one piece.
WAY_ROW = [(0,), (1,), (0, 1), (2,), (3,), (2, 3), (1, 2), (0, 3), (0, 2)]
# Two faces whose rings are others than the sums of the edges that made the holes.
SQUARE_ROW = [(0,), (1,), (2,), (3,), (0, 1), (0, 3), (1, 3), (0, 2), (1, 2), (2, 3),
              (1, 2, 3), (0, 2, 3)]
# All pieces over five corners: four of its blocks leave none, the fifth makes a hole.
BALL_ROW = [piece for size in range(1, 5) for piece in combinations(range(5), size)]


class Odd:
    """A thing that lets nobody look at it."""

    @property
    def __class__(self):
        raise RuntimeError("not to be asked")

    def _refuse(self, *told):
        raise RuntimeError("not to be asked")

    __eq__ = __lt__ = __le__ = __gt__ = __ge__ = _refuse
    __len__ = __iter__ = __getitem__ = __bool__ = __hash__ = _refuse
    __int__ = __index__ = __repr__ = __str__ = _refuse


class Posing:
    """A thing that gives itself out for another kind."""

    def __init__(self, kind):
        self.kind = kind

    @property
    def __class__(self):
        return self.kind


class Agreeing(type):
    """A kind of kinds: each says of itself that it is the same as any other."""

    def __eq__(cls, other):
        return True

    def __ne__(cls, other):
        return False

    __hash__ = type.__hash__


class Denying(type):
    """A kind of kinds: each says of itself that it is another one than any."""

    def __eq__(cls, other):
        return False

    def __ne__(cls, other):
        return True

    __hash__ = type.__hash__


class Raising(type):
    """A kind of kinds that lets nobody ask it anything."""

    def _refuse(cls, *told):
        raise RuntimeError("not to be asked")

    __eq__ = __ne__ = __hash__ = __getattribute__ = _refuse
    __instancecheck__ = __subclasscheck__ = _refuse


def wayward(base=object, *told):
    """Give a thing of each such kind of kinds, of a class derived from the base."""
    return [kind("Wayward", (base,), {})(*told) for kind in (Agreeing, Denying, Raising)]


def no_numbers(many):
    """Give things of which none is an int itself from 0 and below many (at least 2)."""
    return [-1, -2, -10 ** 60, many, many + 1, 10 ** 60, True, False, None, "", "0", "a", b"0",
            0.0, 1.0, float("nan"), 0j, [], [0], (), (0,), {}, {0: 0}, set(), {0}, frozenset(),
            range(1), object(), int, len, Ellipsis, Odd(), Posing(int),
            *wayward(), *wayward(int, 0)]


def no_tuples():
    """Give things that are no tuple itself."""
    return [None, True, False, 0, 1, -1, 1.5, "", "0", "01", b"", b"0", [], [0], [0, 1], {},
            {0: 1}, set(), {0}, frozenset((0,)), range(1), iter([0]), object(), tuple, len,
            Ellipsis, Odd(), Posing(tuple), *wayward(), *wayward(tuple, (0,)), *wayward(list, [0])]


def no_lists():
    """Give things that are no list itself, and not None."""
    return [True, False, 0, 1, 1.5, "", "0", b"", (), ((0,),), {}, {(0,): 0}, set(), {(0,)},
            range(0), iter([]), object(), list, Ellipsis, Shape(), Odd(), Posing(list),
            *wayward(), *wayward(list), *wayward(list, [(0,)]), *wayward(tuple)]


def no_texts():
    """Give things that are no str itself."""
    return [None, True, False, 0, 1, 1.5, b"", b"0", [], ["0"], (), ("0",), {}, {"0": 0}, set(),
            {"0"}, range(1), object(), str, Ellipsis, Shape(), Odd(), Posing(str),
            *wayward(), *wayward(str), *wayward(str, "0")]


def look(shape):
    """Give all that a shape tells of itself."""
    numbers = range(shape.many())
    return (shape.many(), shape.pieces(), [shape.piece(k) for k in numbers],
            [shape.size(k) for k in numbers], [shape.sides_of(k) for k in numbers],
            [shape.uppers_of(k) for k in numbers], [shape.border([k]) for k in numbers])


def border_masks(row):
    """Give the border of each piece of a row, one bit for each number."""
    numbers = {piece: number for number, piece in enumerate(row)}
    return [sum(1 << numbers[side] for side in all_sides(piece)) for piece in row]


def rank(masks):
    """Give how many of the masks are no sums of such ones ahead."""
    basis = {}
    for mask in masks:
        while mask and mask.bit_length() in basis:
            mask ^= basis[mask.bit_length()]
        if mask:
            basis[mask.bit_length()] = mask
    return len(basis)


def counted(row):
    """Give how many holes of each size a row has, by the counting of point 8."""
    masks = border_masks(row)
    sizes = [[mask for piece, mask in zip(row, masks) if len(piece) == k + 1] for k in range(5)]
    return [len(sizes[k]) - rank(sizes[k]) - rank(sizes[k + 1]) for k in range(4)]


def all_sides(piece):
    """List the sides of a piece, reckoned without the program."""
    if len(piece) == 1:
        return []
    return [tuple(side) for side in combinations(piece, len(piece) - 1)]


def drawn_row(seed, corners, many):
    """Draw a row of pieces, each behind all its sides, of at most so many pieces."""
    draw = Random(seed)
    wanted = [piece for size in range(1, 5) for piece in combinations(corners, size)]
    draw.shuffle(wanted)
    row = []
    for piece in wanted:
        _grow(row, piece, draw)
    return row[:many]


def _grow(row, piece, draw):
    if piece in row:
        return
    around = all_sides(piece)
    draw.shuffle(around)
    for side in around:
        _grow(row, side, draw)
    row.append(piece)


def loose_row(seed, corners, many):
    """Draw a row in which each next piece is any that has all its sides already."""
    draw = Random(seed)
    rest = [piece for size in range(1, 5) for piece in combinations(corners, size)]
    row = []
    while rest and len(row) < many:
        ready = [piece for piece in rest if all(side in row for side in all_sides(piece))]
        # Larger pieces are preferred now and then, so that holes are filled early.
        ready.sort(key=len, reverse=draw.random() < 0.7)
        piece = ready[draw.randrange(max(1, len(ready) // 2))]
        rest.remove(piece)
        row.append(piece)
    return row


def reordered(row, seed):
    """Draw another order of the same pieces, each behind its sides."""
    draw = Random(seed)
    rest, told = list(row), []
    while rest:
        ready = [piece for piece in rest if all(side in told for side in all_sides(piece))]
        piece = ready[draw.randrange(len(ready))]
        rest.remove(piece)
        told.append(piece)
    return told


def drawn_rows():
    """Give drawn rows of several lengths, up to the most that a shape can have."""
    rows = []
    for seed in range(6):
        rows.append(drawn_row(seed, range(6), 200))
        rows.append(loose_row(seed, range(7), 60 + seed))
    rows.append(drawn_row(11, [3, 4, 7, 10 ** 60 - 1, 10 ** 60], 200))
    rows.append(loose_row(12, range(12), 90))
    rows.append(drawn_row(13, range(9), 200))
    rows.append(loose_row(14, range(9), 200))
    return rows


def full_row():
    """Give a row of as many pieces as a shape can have."""
    return drawn_row(21, range(9), 200)
