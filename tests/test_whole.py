"""What holds over the whole program: point 1."""

import unittest
from copy import deepcopy

from holepairs.errors import BadPiece, BadRow, BadText, NoPiece
from holepairs.holes import bars, counts, open_at, shown
from holepairs.keeping import Keeper
from holepairs.pieces import added, is_piece, sides
from holepairs.reckoning import pairs, pairs_from_behind, reduced
from holepairs.shapes import Shape, exchanged
from holepairs.texts import read, written
from holepairs.turning import turn_word
from tests.helpers import (BALL_ROW, FILLED_ROW, SQUARE_ROW, TRIANGLE_ROW, WAY_ROW, all_sides,
                           drawn_rows, loose_row, no_lists, no_numbers, no_texts, no_tuples)

ROWS = [[], [(4,)], TRIANGLE_ROW, WAY_ROW, SQUARE_ROW, FILLED_ROW, BALL_ROW,
        loose_row(3, range(6), 40)]


def kept(row):
    """Give a keeper of a row."""
    keeper = Keeper()
    for piece in row:
        keeper.put(piece)
    return keeper


def makers(shape):
    return [maker for _, maker, _ in bars(shape)]


def turns(shape):
    """List the numbers of pieces that can change places with the next one."""
    row = shape.pieces()
    return [k for k in range(len(row) - 1) if row[k] not in all_sides(row[k + 1])]


def asks(shape, keeper):
    """Give all that can be asked of a shape and of a keeper of the same row."""
    told = [shape.pieces, shape.many, lambda: reduced(shape), lambda: pairs(shape),
            lambda: pairs_from_behind(shape), lambda: bars(shape), lambda: written(shape),
            keeper.pairs_now, keeper.counts_now, lambda: keeper.shape().pieces(),
            lambda: shape.border([])]
    for number in range(shape.many()):
        told += [lambda k=number: shape.piece(k), lambda k=number: shape.size(k),
                 lambda k=number: shape.sides_of(k), lambda k=number: shape.uppers_of(k),
                 lambda k=number: shape.border([k]), lambda k=number: sides(shape.piece(k)),
                 lambda k=number: added([k], [])]
    told += [lambda k=time: open_at(shape, k) for time in range(shape.many() + 1)]
    told += [lambda k=time: counts(shape, k) for time in range(shape.many() + 1)]
    told += [lambda k=maker: shown(shape, k) for maker in makers(shape)]
    told += [lambda k=number: turn_word(shape, k) for number in turns(shape)]
    told += [lambda k=number: exchanged(shape, k).pieces() for number in turns(shape)]
    return told


def spoil(told):
    """Change every list that was told, those within it first."""
    if type(told) in (list, tuple):
        for part in told:
            spoil(part)
    if type(told) is list:
        told.reverse()
        told.append(77)
        told[0] = 88


def lists_in(told):
    """Give every list that was told, those within it, too."""
    found = [told] if type(told) is list else []
    if type(told) in (list, tuple):
        for part in told:
            found += lists_in(part)
    return found


class OwnTest(unittest.TestCase):

    def test_what_is_told_can_be_changed_and_is_told_again(self):
        for row in ROWS:
            shape, keeper = Shape(row), kept(row)
            before = [deepcopy(ask()) for ask in asks(shape, keeper)]
            for ask, told in zip(asks(shape, keeper), before):
                spoil(ask())
                self.assertEqual(ask(), told)
            self.assertEqual([ask() for ask in asks(shape, keeper)], before)

    def test_no_two_told_lists_are_one(self):
        for row in ROWS:
            shape, keeper = Shape(row), kept(row)
            told = [ask() for ask in asks(shape, keeper) + asks(shape, keeper)]
            found = lists_in(told)
            self.assertEqual(len({id(part) for part in found}), len(found))

    def test_nothing_done_or_asked_later_changes_what_was_told(self):
        for row in ROWS:
            shape, keeper = Shape(row), kept(row)
            told = [ask() for ask in asks(shape, keeper)]
            before = deepcopy(told)
            for ask in asks(shape, keeper):
                spoil(ask())
            for one in (shape, keeper):
                one.put((500,))
                one.put((501,))
                one.put((500, 501))
            for ask in asks(shape, keeper):
                ask()
            for one in (shape, keeper):
                for _ in range(len(row) + 3):
                    one.cut()
            self.assertEqual(told, before)

    def test_a_told_shape_is_the_askers_own(self):
        shape, keeper = Shape(FILLED_ROW), kept(FILLED_ROW)
        before = [deepcopy(ask()) for ask in asks(shape, keeper)]
        for other in [exchanged(shape, 0), keeper.shape(), read(written(shape))]:
            other.put((9,))
            for _ in range(16):
                other.cut()
        self.assertEqual([ask() for ask in asks(shape, keeper)], before)


class HandedInTest(unittest.TestCase):

    def test_lists_stay_and_are_not_kept(self):
        for row in ROWS:
            rows = list(row)
            shape = Shape(rows)
            before = [deepcopy(ask()) for ask in asks(shape, kept(row))]
            self.assertEqual(rows, row)
            rows.append((600,))
            rows.reverse()
            self.assertEqual([ask() for ask in asks(shape, kept(row))], before)

    def test_heaps_stay(self):
        shape = Shape(FILLED_ROW)
        one, other = [4, 5], [5, 7]
        spoil(shape.border(one))
        spoil(added(one, other))
        self.assertEqual((one, other), ([4, 5], [5, 7]))

    def test_shapes_stay(self):
        for row in ROWS:
            shape = Shape(row)
            for ask in asks(shape, kept(row)):
                spoil(ask())
                self.assertEqual(shape.pieces(), row)

    def test_pieces_stay(self):
        for piece in BALL_ROW:
            kept(BALL_ROW[:BALL_ROW.index(piece)]).put(piece)
            spoil(sides(piece))
            self.assertIs(is_piece(piece), True)
        self.assertEqual(Shape(BALL_ROW).pieces(), BALL_ROW)


class AlikeTest(unittest.TestCase):

    def test_alike_shapes_are_told_the_same(self):
        for row in ROWS[2:] + drawn_rows()[:3]:
            turn = turns(Shape(row))[-1]
            grown = Shape(row[:-1])
            for piece in [(500,), (501,), (500, 501)]:
                grown.put(piece)
            for _ in range(3):
                grown.cut()
            grown.put(row[-1])
            alike = [grown, kept(row).shape(), read(written(Shape(row))),
                     exchanged(exchanged(Shape(row), turn), turn)]
            told = [ask() for ask in asks(Shape(row), kept(row))]
            for shape in alike:
                self.assertEqual([ask() for ask in asks(shape, kept(shape.pieces()))], told)


class RefusedTest(unittest.TestCase):
    """Whatever is handed in where a refusal is told is refused so, and changes nothing."""

    def refused(self, ask, things, kind):
        for thing in things:
            for _ in range(2):
                with self.assertRaises(kind) as caught:
                    ask(thing)
                self.assertIs(type(caught.exception), kind)

    def test_every_place_where_a_refusal_is_told(self):
        for row in [TRIANGLE_ROW, FILLED_ROW]:
            shape, keeper, many = Shape(row), kept(row), len(row)
            before = [deepcopy(ask()) for ask in asks(shape, keeper)]
            for ask in [shape.piece, shape.size, shape.sides_of, shape.uppers_of,
                        lambda k: exchanged(shape, k), lambda k: turn_word(shape, k),
                        lambda k: shown(shape, k)]:
                self.refused(ask, no_numbers(many), NoPiece)
            for ask in [lambda k: open_at(shape, k), lambda k: counts(shape, k)]:
                self.refused(ask, no_numbers(many + 1), NoPiece)
            for ask in [shape.put, keeper.put, lambda thing: Shape([thing])]:
                self.refused(ask, no_tuples(), BadPiece)
            self.refused(Shape, no_lists(), BadRow)
            self.refused(read, no_texts(), BadText)
            self.assertEqual([ask() for ask in asks(shape, keeper)], before)

    def test_true_and_false_are_no_whole_numbers(self):
        shape = Shape([(0,), (1,), (2,)])
        for thing in (True, False):
            for ask in [shape.piece, shape.size, shape.sides_of, shape.uppers_of,
                        lambda k: exchanged(shape, k), lambda k: turn_word(shape, k),
                        lambda k: shown(shape, k), lambda k: open_at(shape, k),
                        lambda k: counts(shape, k)]:
                self.refused(ask, [thing], NoPiece)
            for ask in [shape.put, Keeper().put]:
                self.refused(ask, [(thing,), (thing, 2)], BadPiece)
            self.assertIs(is_piece((thing,)), False)


if __name__ == "__main__":
    unittest.main()
