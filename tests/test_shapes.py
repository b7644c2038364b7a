"""Shapes: what comes, what goes, what is refused and what is told."""

import unittest
from itertools import combinations

from holepairs.errors import BadPiece, BadRow, Full, Lacking, NoPiece, Twice
from holepairs.pieces import added
from holepairs.shapes import Shape
from tests.helpers import (FILLED_ROW, HOLLOW_ROW, OUTLINE_ROW, TRIANGLE_ROW, Odd, Posing,
                           all_sides, drawn_rows, full_row, look, no_lists, no_numbers, no_tuples,
                           wayward)

MOST = 10 ** 60


class PutTest(unittest.TestCase):

    def refused(self, shape, piece, kind):
        """Let a piece be refused, see that nothing changes by it, and give the error."""
        before = look(shape)
        with self.assertRaises(kind) as caught:
            shape.put(piece)
        self.assertIs(type(caught.exception), kind)
        self.assertEqual(look(shape), before)
        return caught.exception

    def test_numbers_from_nought(self):
        shape = Shape()
        told = [shape.put(piece) for piece in FILLED_ROW]
        self.assertEqual(told, list(range(15)))
        self.assertTrue(all(type(number) is int for number in told))
        self.assertEqual(shape.pieces(), FILLED_ROW)

    def test_far_corners(self):
        shape = Shape([(0,), (MOST,)])
        self.assertEqual(shape.put((0, MOST)), 2)
        self.assertEqual(shape.sides_of(2), [0, 1])

    def test_bad_pieces(self):
        wrong = no_tuples() + [(), (1, 0), (0, 0), (0, 1, 2, 3, 4), (-1,), (MOST + 1,), (True,),
                               (False, 1), (None,), ("0",), (0, "1"), (0.0,), ([0],), ((0,),),
                               (Odd(),), (Posing(int),)]
        wrong += [(thing,) for thing in wayward() + wayward(int, 3)]
        for row in [[], [(0,), (1,)], HOLLOW_ROW]:
            shape = Shape(row)
            for thing in wrong:
                self.assertEqual(self.refused(shape, thing, BadPiece).at, len(row))

    def test_twice(self):
        shape = Shape(TRIANGLE_ROW)
        for piece in TRIANGLE_ROW:
            self.assertEqual(self.refused(shape, piece, Twice).at, 7)
        self.assertEqual(shape.put((9,)), 7)
        self.assertEqual(self.refused(shape, (9,), Twice).at, 8)

    def test_lacking_tells_the_least_side(self):
        cases = [([], (3, 5), (3,)), ([(3,)], (3, 5), (5,)), ([(5,)], (3, 5), (3,)),
                 (OUTLINE_ROW[:3], (0, 1, 2), (0, 1)),
                 (OUTLINE_ROW[:3] + [(1, 2)], (0, 1, 2), (0, 1)),
                 (OUTLINE_ROW[:3] + [(0, 1)], (0, 1, 2), (0, 2)),
                 (OUTLINE_ROW[:3] + [(0, 2), (0, 1)], (0, 1, 2), (1, 2)),
                 ([], (0, 1, 2, 3), (0, 1, 2)),
                 (HOLLOW_ROW[:-1], (0, 1, 2, 3), (1, 2, 3)),
                 ([(10,)], (9, 10, 11), (9, 10)),
                 ([(MOST,)], (0, MOST), (0,))]
        for row, piece, side in cases:
            with self.subTest(row=row, piece=piece):
                error = self.refused(Shape(row), piece, Lacking)
                self.assertEqual((error.at, error.side), (len(row), side))

    def test_a_bad_piece_is_told_ahead_of_a_lacking_side(self):
        shape = Shape([(0,)])
        for piece in [(0, 7, 7), (7, 0), (0, 7, True), (0, 7, MOST + 1)]:
            self.assertEqual(self.refused(shape, piece, BadPiece).at, 1)

    def test_two_hundred_pieces_and_no_more(self):
        row = full_row()
        shape = Shape()
        self.assertEqual([shape.put(piece) for piece in row], list(range(200)))
        self.assertEqual(shape.many(), 200)
        self.assertEqual(shape.pieces(), row)
        self.refused(shape, (1000,), Full)
        self.refused(shape, (MOST,), Full)
        ready = [piece for piece in combinations(range(9), 4)
                 if piece not in row and all(side in row for side in all_sides(piece))]
        self.assertTrue(ready)
        for piece in ready:
            self.refused(shape, piece, Full)

    def test_full_is_told_last(self):
        shape = Shape(full_row())
        for thing in [None, (1, 0), (True,), [0], ()]:
            self.assertEqual(self.refused(shape, thing, BadPiece).at, 200)
        for piece in [shape.piece(0), shape.piece(120), shape.piece(199)]:
            self.assertEqual(self.refused(shape, piece, Twice).at, 200)
        error = self.refused(shape, (0, 1000), Lacking)
        self.assertEqual((error.at, error.side), (200, (1000,)))

    def test_a_full_shape_goes_on_behind_a_cut(self):
        row = full_row()
        shape = Shape(row)
        shape.cut()
        self.assertEqual(shape.put((1000,)), 199)
        self.refused(shape, (1001,), Full)
        self.assertEqual(shape.pieces(), row[:-1] + [(1000,)])


class CutTest(unittest.TestCase):

    def test_the_last_piece_goes(self):
        shape = Shape(FILLED_ROW)
        for many in reversed(range(15)):
            self.assertEqual(shape.cut(), FILLED_ROW[many])
            self.assertEqual(look(shape), look(Shape(FILLED_ROW[:many])))

    def test_of_an_empty_shape(self):
        for shape in [Shape(), Shape([])]:
            for _ in range(2):
                with self.assertRaises(NoPiece):
                    shape.cut()
                self.assertEqual(look(shape), look(Shape()))
        shape = Shape([(4,)])
        self.assertEqual(shape.cut(), (4,))
        with self.assertRaises(NoPiece):
            shape.cut()
        self.assertEqual(shape.put((4,)), 0)

    def test_what_went_stands_no_longer(self):
        shape = Shape(TRIANGLE_ROW)
        self.assertEqual(shape.cut(), (0, 1, 2))
        self.assertEqual(shape.cut(), (1, 2))
        with self.assertRaises(Lacking) as caught:
            shape.put((0, 1, 2))
        self.assertEqual((caught.exception.at, caught.exception.side), (5, (1, 2)))
        self.assertEqual(shape.put((1, 2)), 5)
        self.assertEqual(shape.put((0, 1, 2)), 6)
        self.assertEqual(look(shape), look(Shape(TRIANGLE_ROW)))


class MadeOfRowsTest(unittest.TestCase):

    def refused(self, rows, kind):
        with self.assertRaises(kind) as caught:
            Shape(rows)
        self.assertIs(type(caught.exception), kind)
        return caught.exception

    def test_of_none_and_of_empty_lists(self):
        for shape in [Shape(), Shape(None), Shape(pieces=None), Shape([]), Shape(pieces=[])]:
            self.assertEqual((shape.many(), shape.pieces()), (0, []))

    def test_of_a_list(self):
        self.assertEqual(Shape(TRIANGLE_ROW).pieces(), TRIANGLE_ROW)
        self.assertEqual(look(Shape(pieces=FILLED_ROW)), look(Shape(FILLED_ROW)))

    def test_of_what_is_no_list(self):
        for thing in no_lists():
            self.refused(thing, BadRow)

    def test_of_rows_with_a_bad_piece(self):
        for thing in [None, (1, 0), (True,), [0], "0", (), (MOST + 1,), Odd(),
                      *wayward(), *wayward(tuple, (3,))]:
            self.assertEqual(self.refused([thing], BadPiece).at, 0)
            self.assertEqual(self.refused([(0,), (1,), thing, (2,)], BadPiece).at, 2)

    def test_of_rows_with_one_twice(self):
        self.assertEqual(self.refused([(0,), (0,)], Twice).at, 1)
        self.assertEqual(self.refused(TRIANGLE_ROW + [(0, 2)], Twice).at, 7)

    def test_of_rows_with_a_lacking_side(self):
        error = self.refused([(0,), (0, 1), (1,)], Lacking)
        self.assertEqual((error.at, error.side), (1, (1,)))
        error = self.refused([(0, 1, 2)] + OUTLINE_ROW, Lacking)
        self.assertEqual((error.at, error.side), (0, (0, 1)))

    def test_the_first_bad_row_of_several_is_told(self):
        self.assertEqual(self.refused([(0,), (0,), None, (5, 6)], Twice).at, 1)
        self.assertEqual(self.refused([(0,), (5, 6), (0,), None], Lacking).at, 1)
        self.assertEqual(self.refused([(0,), None, (0,), (5, 6)], BadPiece).at, 1)

    def test_of_more_than_two_hundred(self):
        row = full_row()
        self.assertEqual(Shape(row).many(), 200)
        self.refused(row + [(1000,)], Full)
        self.refused(row + [(1000,), None], Full)
        self.assertEqual(self.refused(row + [None], BadPiece).at, 200)
        self.assertEqual(self.refused(row + [row[0]], Twice).at, 200)
        self.assertEqual(self.refused(row + [(0, 1000)], Lacking).at, 200)

    def test_the_list_stays_and_is_not_kept(self):
        rows = list(TRIANGLE_ROW)
        shape = Shape(rows)
        before = look(shape)
        self.assertEqual(rows, TRIANGLE_ROW)
        shape.put((3,))
        shape.cut()
        self.assertEqual(rows, TRIANGLE_ROW)
        rows.append((8,))
        rows[0] = (7,)
        rows.reverse()
        self.assertEqual(look(shape), before)
        empty = []
        shape = Shape(empty)
        shape.put((0,))
        self.assertEqual(empty, [])

    def test_a_refused_list_stays(self):
        rows = [(0,), (0, 1)]
        self.refused(rows, Lacking)
        self.assertEqual(rows, [(0,), (0, 1)])

    def test_shapes_go_on_by_themselves(self):
        one, other = Shape(), Shape()
        one.put((0,))
        self.assertEqual((one.many(), other.many()), (1, 0))
        rows = [(0,), (1,)]
        one, other = Shape(rows), Shape(rows)
        one.put((0, 1))
        self.assertEqual((one.pieces(), other.pieces()), ([(0,), (1,), (0, 1)], [(0,), (1,)]))
        self.assertEqual(other.uppers_of(0), [])


class ToldTest(unittest.TestCase):

    def test_by_hand(self):
        shape = Shape([(5,), (0,), (0, 5), (3,), (3, 5), (0, 3), (0, 3, 5)])
        self.assertEqual(shape.many(), 7)
        self.assertEqual(shape.piece(0), (5,))
        self.assertEqual(shape.piece(6), (0, 3, 5))
        self.assertEqual([shape.size(k) for k in range(7)], [0, 0, 1, 0, 1, 1, 2])
        self.assertEqual([shape.sides_of(k) for k in range(7)],
                         [[], [], [0, 1], [], [0, 3], [1, 3], [2, 4, 5]])
        self.assertEqual([shape.uppers_of(k) for k in range(7)],
                         [[2, 4], [2, 5], [6], [4, 5], [6], [6], []])

    def test_drawn(self):
        for row in drawn_rows():
            shape = Shape(row)
            self.assertEqual(shape.many(), len(row))
            self.assertEqual(shape.pieces(), row)
            for number, piece in enumerate(row):
                around = all_sides(piece)
                self.assertEqual(shape.piece(number), piece)
                self.assertEqual(shape.size(number), len(piece) - 1)
                self.assertEqual(shape.sides_of(number), sorted(row.index(side) for side in around))
            for number, piece in enumerate(row):
                uppers = [at for at, upper in enumerate(row) if piece in all_sides(upper)]
                self.assertEqual(shape.uppers_of(number), uppers)

    def test_no_piece(self):
        for row in [OUTLINE_ROW, [(0,), (1,)], HOLLOW_ROW]:
            shape = Shape(row)
            before = look(shape)
            for ask in [shape.piece, shape.size, shape.sides_of, shape.uppers_of]:
                for thing in no_numbers(len(row)):
                    with self.assertRaises(NoPiece) as caught:
                        ask(thing)
                    self.assertIs(type(caught.exception), NoPiece)
            self.assertEqual(look(shape), before)

    def test_no_piece_of_an_empty_shape(self):
        shape = Shape()
        for ask in [shape.piece, shape.size, shape.sides_of, shape.uppers_of]:
            for thing in [0, -1, 1, None, False]:
                with self.assertRaises(NoPiece):
                    ask(thing)

    def test_the_told_lists_are_the_askers_own(self):
        shape = Shape(FILLED_ROW)
        asks = [shape.pieces]
        for number in range(15):
            asks.append(lambda number=number: shape.sides_of(number))
            asks.append(lambda number=number: shape.uppers_of(number))
            asks.append(lambda number=number: shape.border([number]))
        asks.append(lambda: shape.border([4, 5]))
        asks.append(lambda: shape.border([]))
        before = look(shape)
        for ask in asks:
            told = ask()
            self.assertIs(type(told), list)
            kept = list(told)
            told.append(77)
            told.reverse()
            self.assertEqual(ask(), kept)
            told.clear()
            self.assertEqual(ask(), kept)
            self.assertEqual(look(shape), before)

    def test_nothing_done_later_changes_what_was_told(self):
        shape = Shape(OUTLINE_ROW)
        told = [shape.pieces(), shape.uppers_of(3), shape.sides_of(3), shape.border([3])]
        shape.put((0, 1, 2))
        shape.uppers_of(3).append(9)
        self.assertEqual(told, [OUTLINE_ROW, [], [0, 1], [0, 1]])
        shape.cut()
        shape.cut()
        self.assertEqual(told, [OUTLINE_ROW, [], [0, 1], [0, 1]])


class BorderTest(unittest.TestCase):

    def test_by_hand(self):
        shape = Shape(FILLED_ROW)
        self.assertEqual(shape.border([]), [])
        self.assertEqual(shape.border([0]), [])
        self.assertEqual(shape.border([0, 1, 2]), [])
        self.assertEqual(shape.border([4]), [0, 1])
        self.assertEqual(shape.border([4, 5]), [1, 2])
        self.assertEqual(shape.border([4, 9]), [0, 1, 2, 3])
        self.assertEqual(shape.border([4, 5, 7]), [])
        self.assertEqual(shape.border([10]), [4, 5, 7])
        self.assertEqual(shape.border([10, 11]), [5, 6, 7, 8])
        self.assertEqual(shape.border([10, 11, 12, 13]), [])
        self.assertEqual(shape.border([14]), [10, 11, 12, 13])

    def test_the_heap_stays(self):
        shape = Shape(FILLED_ROW)
        heap = [4, 5]
        told = shape.border(heap)
        told.append(9)
        self.assertEqual(heap, [4, 5])
        heap.append(7)
        self.assertEqual(shape.border([4, 5]), [1, 2])

    def test_the_border_of_a_border_is_empty(self):
        for row in drawn_rows():
            shape = Shape(row)
            for size in range(4):
                heap = [k for k in range(len(row)) if len(row[k]) == size + 1]
                for part in [heap, heap[::2], heap[::3], heap[1:7], heap[-1:]]:
                    border = shape.border(part)
                    self.assertEqual(border, sorted(set(border)))
                    self.assertEqual(shape.border(border), [])

    def test_the_border_of_a_sum_is_the_sum_of_the_borders(self):
        for row in drawn_rows():
            shape = Shape(row)
            for size in range(4):
                heap = [k for k in range(len(row)) if len(row[k]) == size + 1]
                one, other = heap[::2], heap[::3]
                self.assertEqual(shape.border(added(one, other)),
                                 added(shape.border(one), shape.border(other)))


if __name__ == "__main__":
    unittest.main()
