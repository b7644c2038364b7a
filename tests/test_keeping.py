"""Keeping: a shape that tells at each piece what it makes or fills."""

import unittest

from holepairs.errors import BadPiece, Full, Lacking, NoPiece, Twice
from holepairs.holes import counts
from holepairs.keeping import Keeper
from holepairs.reckoning import pairs
from holepairs.shapes import Shape
from tests.helpers import (BALL_ROW, FILLED_ROW, OUTLINE_ROW, SQUARE_ROW, TRIANGLE_ROW, WAY_ROW,
                           Odd, drawn_rows, full_row, look, no_tuples, wayward)

MOST = 10 ** 60

TRIANGLE_WORDS = [("makes", 0), ("makes", 0), ("makes", 0), ("fills", 1), ("fills", 2),
                  ("makes", 1), ("fills", 5)]


def kept(row):
    """Give a keeper of a row."""
    keeper = Keeper()
    for piece in row:
        keeper.put(piece)
    return keeper


def state(keeper):
    """Give all that a keeper tells of itself."""
    return look(keeper.shape()), keeper.pairs_now(), keeper.counts_now()


def words_by_pairs(row):
    """Give what a keeper should tell at each piece, by the pairs of the whole row."""
    maker_of = {filler: maker for maker, filler in pairs(Shape(row))[0]}
    return [("fills", maker_of[number]) if number in maker_of else ("makes", len(piece) - 1)
            for number, piece in enumerate(row)]


class PutTest(unittest.TestCase):

    def check(self, row, told):
        keeper = Keeper()
        self.assertEqual([keeper.put(piece) for piece in row], told)

    def test_small_shapes(self):
        self.check([(4,)], [("makes", 0)])
        self.check([(0,), (1,), (0, 1)], [("makes", 0), ("makes", 0), ("fills", 1)])
        self.check(TRIANGLE_ROW, TRIANGLE_WORDS)

    def test_what_fills_by_a_sum(self):
        self.check([(0,), (1,), (2,), (0, 2), (1, 2)],
                   [("makes", 0)] * 3 + [("fills", 2), ("fills", 1)])
        keeper = kept(SQUARE_ROW[:10])
        self.assertEqual(keeper.put((1, 2, 3)), ("fills", 9))
        self.assertEqual(keeper.put((0, 2, 3)), ("fills", 8))

    def test_larger_sizes(self):
        keeper = kept(FILLED_ROW[:13])
        self.assertEqual(keeper.put(FILLED_ROW[13]), ("makes", 2))
        self.assertEqual(keeper.put(FILLED_ROW[14]), ("fills", 13))
        self.assertEqual(kept(BALL_ROW[:-1]).put(BALL_ROW[-1]), ("makes", 3))

    def test_its_kinds(self):
        keeper = Keeper()
        for piece in FILLED_ROW:
            told = keeper.put(piece)
            self.assertIs(type(told), tuple)
            self.assertEqual([type(part) for part in told], [str, int])

    def test_drawn_shapes(self):
        for row in drawn_rows():
            self.check(row, words_by_pairs(row))

    def test_no_argument(self):
        keeper = Keeper()
        self.assertEqual(keeper.shape().pieces(), [])
        self.assertEqual(keeper.pairs_now(), ([], []))
        self.assertEqual(keeper.counts_now(), [0, 0, 0, 0])


class RefusedTest(unittest.TestCase):

    def refused(self, keeper, piece, kind):
        """Let a piece be refused, see that nothing changes by it, and give the error."""
        before = state(keeper)
        with self.assertRaises(kind) as caught:
            keeper.put(piece)
        self.assertIs(type(caught.exception), kind)
        self.assertEqual(state(keeper), before)
        return caught.exception

    def test_bad_pieces(self):
        wrong = no_tuples() + [(), (1, 0), (0, 0), (0, 1, 2, 3, 4), (-1,), (MOST + 1,), (True,),
                               (False, 1), (None,), ("0",), (0.0,), ([0],), ((0,),), (Odd(),)]
        wrong += [(thing,) for thing in wayward() + wayward(int, 3)]
        for row in [[], OUTLINE_ROW]:
            keeper = kept(row)
            for thing in wrong:
                self.assertEqual(self.refused(keeper, thing, BadPiece).at, len(row))

    def test_twice(self):
        keeper = kept(TRIANGLE_ROW)
        for piece in TRIANGLE_ROW:
            self.assertEqual(self.refused(keeper, piece, Twice).at, 7)

    def test_lacking(self):
        for row, piece, side in [([], (3, 5), (3,)), ([(3,)], (3, 5), (5,)),
                                 (OUTLINE_ROW[:4], (0, 1, 2), (0, 2)),
                                 (FILLED_ROW[:13], (0, 1, 2, 3), (1, 2, 3))]:
            error = self.refused(kept(row), piece, Lacking)
            self.assertEqual((error.at, error.side), (len(row), side))

    def test_two_hundred_pieces_and_no_more(self):
        row = full_row()
        keeper = kept(row)
        self.assertEqual(keeper.shape().pieces(), row)
        self.refused(keeper, (1000,), Full)
        self.assertEqual(self.refused(keeper, None, BadPiece).at, 200)
        self.assertEqual(self.refused(keeper, row[0], Twice).at, 200)
        self.assertEqual(self.refused(keeper, (0, 1000), Lacking).at, 200)
        self.assertEqual(keeper.cut(), row[-1])
        self.assertEqual(keeper.put((1000,)), ("makes", 0))
        self.refused(keeper, (1001,), Full)

    def test_behind_what_is_refused_it_goes_on_as_before(self):
        keeper = Keeper()
        told = []
        for piece in TRIANGLE_ROW:
            for wrong in [None, (9, 8), (50, 60)]:
                with self.assertRaises((BadPiece, Lacking)):
                    keeper.put(wrong)
            told.append(keeper.put(piece))
            with self.assertRaises(Twice):
                keeper.put(piece)
        self.assertEqual(told, TRIANGLE_WORDS)


class CutTest(unittest.TestCase):

    def test_the_last_piece_goes(self):
        keeper = kept(FILLED_ROW)
        for many in reversed(range(15)):
            self.assertEqual(keeper.cut(), FILLED_ROW[many])
            self.assertEqual(state(keeper), state(kept(FILLED_ROW[:many])))

    def test_of_an_empty_keeper(self):
        for keeper in [Keeper(), kept([])]:
            for _ in range(2):
                with self.assertRaises(NoPiece) as caught:
                    keeper.cut()
                self.assertIs(type(caught.exception), NoPiece)
                self.assertEqual(state(keeper), state(Keeper()))
        keeper = kept([(4,)])
        self.assertEqual(keeper.cut(), (4,))
        with self.assertRaises(NoPiece):
            keeper.cut()
        self.assertEqual(keeper.put((4,)), ("makes", 0))

    def test_behind_it_the_piece_has_never_come(self):
        keeper = kept(TRIANGLE_ROW)
        self.assertEqual(keeper.cut(), (0, 1, 2))
        self.assertEqual(keeper.put((0, 1, 2)), ("fills", 5))
        self.assertEqual((keeper.cut(), keeper.cut(), keeper.cut()), ((0, 1, 2), (1, 2), (0, 2)))
        self.assertEqual(keeper.put((1, 2)), ("fills", 2))
        self.assertEqual(keeper.put((0, 2)), ("makes", 1))
        self.assertEqual(keeper.put((0, 1, 2)), ("fills", 5))

    def test_a_filler_that_went_leaves_its_hole(self):
        keeper = kept([(0,), (1,), (2,), (0, 1)])
        self.assertEqual(keeper.cut(), (0, 1))
        self.assertEqual(keeper.put((1, 2)), ("fills", 2))
        self.assertEqual(keeper.put((0, 1)), ("fills", 1))
        keeper = kept([(0,), (1,), (2,), (1, 2), (0, 2)])
        self.assertEqual(keeper.cut(), (0, 2))
        self.assertEqual(keeper.put((0, 1)), ("fills", 1))

    def test_of_drawn_shapes(self):
        for row in drawn_rows()[:8]:
            keeper, told = Keeper(), []
            for number, piece in enumerate(row):
                keeper.put((600 + number,))
                keeper.cut()
                keeper.put(piece)
                keeper.cut()
                told.append(keeper.put(piece))
            self.assertEqual(told, words_by_pairs(row))


class NowTest(unittest.TestCase):

    def test_small_shapes(self):
        keeper = kept(OUTLINE_ROW)
        self.assertEqual(keeper.pairs_now(), ([(1, 3), (2, 4)], [0, 5]))
        self.assertEqual(keeper.counts_now(), [1, 1, 0, 0])
        keeper.put((0, 1, 2))
        self.assertEqual(keeper.pairs_now(), ([(1, 3), (2, 4), (5, 6)], [0]))
        self.assertEqual(keeper.counts_now(), [1, 0, 0, 0])
        keeper.cut()
        self.assertEqual(keeper.counts_now(), [1, 1, 0, 0])
        self.assertEqual(kept(BALL_ROW).counts_now(), [1, 0, 0, 1])

    def test_drawn_shapes(self):
        for row in drawn_rows():
            keeper = Keeper()
            for many, piece in enumerate(row):
                keeper.put(piece)
                if many % 7 == 0 or many + 1 == len(row):
                    shape = Shape(row[:many + 1])
                    self.assertEqual(keeper.pairs_now(), pairs(shape))
                    self.assertEqual(keeper.counts_now(), counts(shape, many + 1))

    def test_a_full_keeper(self):
        row = full_row()
        keeper = kept(row)
        self.assertEqual(keeper.pairs_now(), pairs(Shape(row)))
        self.assertEqual(keeper.counts_now(), counts(Shape(row), 200))


class ShapeTest(unittest.TestCase):

    def test_as_it_is(self):
        for row in [[], TRIANGLE_ROW, WAY_ROW, FILLED_ROW]:
            told = kept(row).shape()
            self.assertIs(type(told), Shape)
            self.assertEqual(look(told), look(Shape(row)))

    def test_it_goes_its_own_way(self):
        keeper = kept(OUTLINE_ROW)
        shape, other = keeper.shape(), keeper.shape()
        self.assertEqual(shape.put((0, 1, 2)), 6)
        shape.put((9,))
        self.assertEqual(other.pieces(), OUTLINE_ROW)
        self.assertEqual(state(keeper), state(kept(OUTLINE_ROW)))
        for _ in range(8):
            shape.cut()
        self.assertEqual(state(keeper), state(kept(OUTLINE_ROW)))
        self.assertEqual(keeper.put((0, 1, 2)), ("fills", 5))
        self.assertEqual(other.pieces(), OUTLINE_ROW)
        keeper.cut()
        keeper.cut()
        self.assertEqual(other.pieces(), OUTLINE_ROW)
        self.assertEqual(shape.pieces(), [])

    def test_keepers_go_on_by_themselves(self):
        one, other = Keeper(), Keeper()
        one.put((0,))
        self.assertEqual((one.shape().many(), other.shape().many()), (1, 0))
        self.assertEqual(other.counts_now(), [0, 0, 0, 0])


if __name__ == "__main__":
    unittest.main()
