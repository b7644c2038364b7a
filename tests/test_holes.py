"""Holes: from when to when they are there, how many, and what shows them."""

import unittest

from holepairs.errors import NoPiece
from holepairs.holes import bars, counts, open_at, shown
from holepairs.reckoning import pairs, reduced
from holepairs.shapes import Shape
from tests.helpers import (BALL_ROW, FILLED_ROW, HOLLOW_ROW, OUTLINE_ROW, SQUARE_ROW, TRIANGLE_ROW,
                           WAY_ROW, border_masks, counted, drawn_rows, look, no_numbers, rank,
                           reordered)

WAY_BARS = [(0, 0, None), (0, 1, 2), (0, 3, 6), (0, 4, 5), (1, 7, None), (1, 8, None)]
FILLED_BARS = [(0, 0, None), (0, 1, 4), (0, 2, 5), (0, 3, 6), (1, 7, 10), (1, 8, 11), (1, 9, 12),
               (2, 13, 14)]


def mask_of(heap):
    return sum(1 << number for number in heap)


class BarsTest(unittest.TestCase):

    def check(self, row, told):
        self.assertEqual(bars(Shape(row)), told)

    def test_nothing_and_points(self):
        self.check([], [])
        self.check([(4,)], [(0, 0, None)])
        self.check([(4,), (2,)], [(0, 0, None), (0, 1, None)])

    def test_small_shapes(self):
        self.check([(0,), (1,), (0, 1)], [(0, 0, None), (0, 1, 2)])
        self.check(OUTLINE_ROW, [(0, 0, None), (0, 1, 3), (0, 2, 4), (1, 5, None)])
        self.check(TRIANGLE_ROW, [(0, 0, None), (0, 1, 3), (0, 2, 4), (1, 5, 6)])
        self.check(HOLLOW_ROW, FILLED_BARS[:-1] + [(2, 13, None)])
        self.check(FILLED_ROW, FILLED_BARS)

    def test_by_makers_where_fillers_do_not_rise(self):
        self.check(WAY_ROW, WAY_BARS)

    def test_a_hole_of_size_three(self):
        self.assertEqual(bars(Shape(BALL_ROW))[-1], (3, 29, None))

    def test_their_kinds(self):
        told = bars(Shape(FILLED_ROW))
        self.assertIs(type(told), list)
        self.assertTrue(all(type(bar) is tuple for bar in told))
        self.assertTrue(all(type(part) is int for bar in told for part in bar if part is not None))

    def test_drawn_shapes(self):
        for row in drawn_rows():
            told = bars(Shape(row))
            makers = [maker for _, maker, _ in told]
            self.assertEqual(makers, sorted(set(makers)))
            self.assertEqual([size for size, _, _ in told], [len(row[k]) - 1 for k in makers])
            found = [(maker, filler) for _, maker, filler in told if filler is not None]
            unfilled = [maker for _, maker, filler in told if filler is None]
            self.assertEqual((found, unfilled), pairs(Shape(row)))


class TimesTest(unittest.TestCase):

    def test_open_at_each_time(self):
        shape = Shape(WAY_ROW)
        self.assertEqual([open_at(shape, time) for time in range(10)],
                         [[], [0], [0, 1], [0], [0, 3], [0, 3, 4], [0, 3], [0], [0, 7], [0, 7, 8]])

    def test_counts_at_each_time(self):
        shape = Shape(WAY_ROW)
        self.assertEqual([counts(shape, time)[:2] for time in range(10)],
                         [[0, 0], [1, 0], [2, 0], [1, 0], [2, 0], [3, 0], [2, 0], [1, 0], [1, 1],
                          [1, 2]])
        self.assertEqual({tuple(counts(shape, time)[2:]) for time in range(10)}, {(0, 0)})

    def test_of_larger_sizes(self):
        shape = Shape(FILLED_ROW)
        self.assertEqual(open_at(shape, 10), [0, 7, 8, 9])
        self.assertEqual(counts(shape, 10), [1, 3, 0, 0])
        self.assertEqual(open_at(shape, 14), [0, 13])
        self.assertEqual(counts(shape, 14), [1, 0, 1, 0])
        self.assertEqual(open_at(shape, 15), [0])
        self.assertEqual(counts(shape, 15), [1, 0, 0, 0])
        shape = Shape(BALL_ROW)
        self.assertEqual(counts(shape, 29), [1, 0, 0, 0])
        self.assertEqual(open_at(shape, 30), [0, 29])
        self.assertEqual(counts(shape, 30), [1, 0, 0, 1])

    def test_the_empty_shape(self):
        self.assertEqual(open_at(Shape(), 0), [])
        self.assertEqual(counts(Shape(), 0), [0, 0, 0, 0])

    def test_time_nought(self):
        for row in [[(3,)], WAY_ROW, FILLED_ROW]:
            self.assertEqual(open_at(Shape(row), 0), [])
            self.assertEqual(counts(Shape(row), 0), [0, 0, 0, 0])

    def test_a_time_is_as_the_end_of_the_shape_that_was_there(self):
        for row in drawn_rows()[:6]:
            shape = Shape(row)
            for time in range(0, len(row) + 1, 5):
                then = Shape(row[:time])
                self.assertEqual(open_at(shape, time), open_at(then, time))
                self.assertEqual(counts(shape, time), counts(then, time))

    def test_drawn_shapes_against_the_counting(self):
        for row in drawn_rows():
            shape = Shape(row)
            times = sorted({0, 1, 2, len(row) // 3, len(row) // 2, len(row) - 1, len(row)})
            for time in times + list(range(3, len(row), 11)):
                told = open_at(shape, time)
                sizes = [len(row[maker]) - 1 for maker in told]
                self.assertEqual(told, sorted(set(told)))
                self.assertEqual(counts(shape, time), counted(row[:time]))
                self.assertEqual([sizes.count(size) for size in range(4)], counted(row[:time]))

    def test_their_kinds(self):
        shape = Shape(FILLED_ROW)
        for told in [open_at(shape, 9), counts(shape, 9)]:
            self.assertIs(type(told), list)
            self.assertTrue(all(type(number) is int for number in told))

    def test_no_such_time(self):
        for row in [OUTLINE_ROW, [(0,), (1,)], FILLED_ROW]:
            shape = Shape(row)
            before = look(shape)
            for ask in [open_at, counts]:
                for thing in no_numbers(len(row) + 1):
                    with self.assertRaises(NoPiece) as caught:
                        ask(shape, thing)
                    self.assertIs(type(caught.exception), NoPiece)
            self.assertEqual(look(shape), before)

    def test_no_such_time_of_short_shapes(self):
        for row in [[], [(0,)]]:
            for ask in [open_at, counts]:
                for thing in [-1, len(row) + 1, True, False, None, "0", [], [0], 0.0, 10 ** 60]:
                    with self.assertRaises(NoPiece):
                        ask(Shape(row), thing)


class OrdersTest(unittest.TestCase):
    """The same pieces in another order, each behind its sides."""

    def rows(self):
        return [SQUARE_ROW, FILLED_ROW, BALL_ROW] + drawn_rows()

    def test_as_many_holes_of_each_size_at_the_end(self):
        for row in self.rows():
            told = counts(Shape(row), len(row))
            for seed in range(3):
                other = reordered(row, seed)
                self.assertEqual(counts(Shape(other), len(row)), told)

    def test_even_sizes_less_odd_sizes(self):
        for row in self.rows():
            shape = Shape(row)
            for time in [0, 1, len(row) // 2, len(row) - 1, len(row)]:
                holes = counts(shape, time)
                sizes = [len(piece) - 1 for piece in row[:time]]
                self.assertEqual(holes[0] - holes[1] + holes[2] - holes[3],
                                 sum((-1) ** size for size in sizes))


class ShownTest(unittest.TestCase):

    def test_points(self):
        self.assertEqual(shown(Shape([(4,)]), 0), ([0], None))
        shape = Shape([(0,), (1,), (0, 1), (2,)])
        self.assertEqual([shown(shape, maker) for maker in (0, 1, 3)],
                         [([0], None), ([0, 1], [2]), ([3], None)])

    def test_what_is_left_of_the_filler_and_its_sum(self):
        shape = Shape([(0,), (1,), (2,), (0, 2), (1, 2)])
        self.assertEqual(shown(shape, 1), ([0, 1], [3, 4]))
        self.assertEqual(shown(shape, 2), ([0, 2], [3]))

    def test_a_ring_that_nothing_fills(self):
        self.assertEqual(shown(Shape(OUTLINE_ROW), 5), ([3, 4, 5], None))
        self.assertEqual(shown(Shape(TRIANGLE_ROW), 5), ([3, 4, 5], [6]))
        self.assertEqual(shown(Shape(WAY_ROW), 7), ([2, 5, 6, 7], None))
        self.assertEqual(shown(Shape(HOLLOW_ROW), 13), ([10, 11, 12, 13], None))
        self.assertEqual(shown(Shape(FILLED_ROW), 13), ([10, 11, 12, 13], [14]))

    def test_the_fillers_ring_where_the_makers_sum_is_another(self):
        shape = Shape(SQUARE_ROW)
        self.assertEqual(reduced(shape)[9][1], [5, 7, 9])
        self.assertEqual(shown(shape, 9), ([6, 8, 9], [10]))
        self.assertEqual(reduced(shape)[8][1], [4, 7, 8])
        self.assertEqual(shown(shape, 8), ([5, 6, 7, 8], [10, 11]))
        self.assertEqual(shown(shape, 6), ([4, 5, 6], None))

    def test_their_kinds(self):
        for told in [shown(Shape(FILLED_ROW), 13), shown(Shape(HOLLOW_ROW), 13)]:
            self.assertIs(type(told), tuple)
            self.assertEqual(len(told), 2)
            self.assertIs(type(told[0]), list)
        self.assertIs(type(shown(Shape(FILLED_ROW), 13)[1]), list)

    def test_drawn_shapes(self):
        for row in drawn_rows()[:10] + [SQUARE_ROW, BALL_ROW]:
            shape = Shape(row)
            rows = reduced(shape)
            for _, maker, filler in bars(shape):
                ring, total = shown(shape, maker)
                self.assertEqual(ring, sorted(set(ring)))
                self.assertEqual(ring[-1], maker)
                self.assertEqual(shape.border(ring), [])
                self.assertEqual({len(row[k]) for k in ring}, {len(row[maker])})
                if filler is None:
                    self.assertEqual((ring, total), (rows[maker][1], None))
                else:
                    self.assertEqual((ring, total), rows[filler])
                    self.assertEqual(shape.border(total), ring)

    def test_the_ring_is_no_border_as_long_as_the_hole_is_there(self):
        for row in drawn_rows()[:6] + [SQUARE_ROW, BALL_ROW, WAY_ROW]:
            shape = Shape(row)
            masks = border_masks(row)
            for _, maker, filler in bars(shape):
                ring = mask_of(shown(shape, maker)[0])
                last = len(row) if filler is None else filler
                there = masks[:last]
                self.assertEqual(rank(there + [ring]), rank(there) + 1)
                if filler is not None:
                    there = masks[:filler + 1]
                    self.assertEqual(rank(there + [ring]), rank(there))

    def test_no_maker(self):
        for row in [OUTLINE_ROW, WAY_ROW, FILLED_ROW]:
            shape = Shape(row)
            before = look(shape)
            fillers = [filler for _, _, filler in bars(shape) if filler is not None]
            for thing in fillers + no_numbers(len(row)):
                with self.assertRaises(NoPiece) as caught:
                    shown(shape, thing)
                self.assertIs(type(caught.exception), NoPiece)
            self.assertEqual(look(shape), before)

    def test_no_maker_of_short_shapes(self):
        for row in [[], [(0,)]]:
            for thing in [-1, len(row), len(row) + 1, True, False, None, "0", [], [0], 0.0]:
                with self.assertRaises(NoPiece):
                    shown(Shape(row), thing)


if __name__ == "__main__":
    unittest.main()
