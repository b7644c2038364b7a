"""Neighbours exchanged: the other shape, and the refusals."""

import unittest

from holepairs.errors import BadTurn, NoPiece
from holepairs.shapes import Shape, exchanged
from tests.helpers import FILLED_ROW, OUTLINE_ROW, TRIANGLE_ROW, drawn_rows, full_row, no_numbers


class ExchangedTest(unittest.TestCase):

    def test_the_new_order(self):
        other = exchanged(Shape(OUTLINE_ROW), 0)
        self.assertIs(type(other), Shape)
        self.assertEqual(other.pieces(), [(1,), (0,), (2,), (0, 1), (0, 2), (1, 2)])
        self.assertEqual([other.sides_of(k) for k in range(6)],
                         [[], [], [], [0, 1], [1, 2], [0, 2]])
        self.assertEqual(other.uppers_of(0), [3, 5])
        other = exchanged(Shape(OUTLINE_ROW), 4)
        self.assertEqual(other.pieces(), [(0,), (1,), (2,), (0, 1), (1, 2), (0, 2)])
        other = exchanged(Shape([(0,), (1,), (0, 1), (2,)]), 2)
        self.assertEqual(other.pieces(), [(0,), (1,), (2,), (0, 1)])
        other = exchanged(Shape([(0,), (1,), (2,), (0, 1)]), 2)
        self.assertEqual(other.pieces(), [(0,), (1,), (0, 1), (2,)])

    def test_the_shape_itself_stays(self):
        shape = Shape(TRIANGLE_ROW)
        exchanged(shape, 3)
        self.assertEqual(shape.pieces(), TRIANGLE_ROW)
        self.assertEqual(shape.uppers_of(1), [3, 5])

    def test_both_go_on_by_themselves(self):
        shape = Shape(OUTLINE_ROW)
        other = exchanged(shape, 0)
        self.assertEqual(other.put((7,)), 6)
        self.assertEqual(shape.pieces(), OUTLINE_ROW)
        self.assertEqual(shape.put((0, 1, 2)), 6)
        self.assertEqual(shape.put((7,)), 7)
        self.assertEqual(other.cut(), (7,))
        self.assertEqual(other.cut(), (1, 2))
        self.assertEqual(other.pieces(), [(1,), (0,), (2,), (0, 1), (0, 2)])
        self.assertEqual(shape.pieces(), TRIANGLE_ROW + [(7,)])
        self.assertEqual((shape.uppers_of(3), other.uppers_of(3)), ([6], []))

    def test_where_one_is_a_side_of_the_other(self):
        for row, number in [([(0,), (1,), (0, 1)], 1), (TRIANGLE_ROW, 5), (FILLED_ROW, 13),
                            ([(1,), (0,), (0, 1)], 1)]:
            shape = Shape(row)
            with self.assertRaises(BadTurn) as caught:
                exchanged(shape, number)
            self.assertIs(type(caught.exception), BadTurn)
            self.assertEqual(shape.pieces(), row)

    def test_where_one_of_both_is_not_there(self):
        for row in [[(0,), (1,)], OUTLINE_ROW, FILLED_ROW]:
            shape = Shape(row)
            for thing in no_numbers(len(row)) + [len(row) - 1]:
                with self.assertRaises(NoPiece) as caught:
                    exchanged(shape, thing)
                self.assertIs(type(caught.exception), NoPiece)
            self.assertEqual(shape.pieces(), row)

    def test_of_small_shapes(self):
        for shape in [Shape(), Shape([(0,)])]:
            for thing in [0, -1, 1, None, False]:
                with self.assertRaises(NoPiece):
                    exchanged(shape, thing)

    def test_a_full_shape(self):
        row = full_row()
        shape = Shape(row + [])
        turned = [k for k in range(199) if not set(row[k]) < set(row[k + 1])]
        for number in [turned[0], turned[-1]]:
            other = exchanged(shape, number).pieces()
            self.assertEqual(other, row[:number] + [row[number + 1], row[number]]
                             + row[number + 2:])

    def test_every_place_of_drawn_shapes(self):
        for row in drawn_rows()[:8]:
            shape = Shape(row)
            for number in range(len(row) - 1):
                one, two = row[number], row[number + 1]
                if set(one) < set(two) and len(one) + 1 == len(two):
                    with self.assertRaises(BadTurn):
                        exchanged(shape, number)
                    continue
                other = exchanged(shape, number)
                self.assertEqual(other.pieces(), row[:number] + [two, one] + row[number + 2:])
                self.assertEqual(exchanged(other, number).pieces(), row)
            self.assertEqual(shape.pieces(), row)


if __name__ == "__main__":
    unittest.main()
