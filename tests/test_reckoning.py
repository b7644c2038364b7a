"""The reckoning: what is left of each piece, its sum, and the pairs."""

import unittest

from holepairs.pieces import added
from holepairs.reckoning import pairs, pairs_from_behind, reduced
from holepairs.shapes import Shape, exchanged
from tests.helpers import (FILLED_ROW, HOLLOW_ROW, OUTLINE_ROW, TRIANGLE_ROW, WAY_ROW, border_masks,
                           drawn_rows)

FILLED_REDUCED = [([], [0]), ([], [1]), ([], [2]), ([], [3]),
                  ([0, 1], [4]), ([0, 2], [5]), ([0, 3], [6]),
                  ([], [4, 5, 7]), ([], [4, 6, 8]), ([], [5, 6, 9]),
                  ([4, 5, 7], [10]), ([4, 6, 8], [11]), ([5, 6, 9], [12]),
                  ([], [10, 11, 12, 13]), ([10, 11, 12, 13], [14])]

WAY_REDUCED = [([], [0]), ([], [1]), ([0, 1], [2]), ([], [3]), ([], [4]), ([3, 4], [5]),
               ([1, 3], [6]), ([], [2, 5, 6, 7]), ([], [2, 6, 8])]


def independent_counts(row):
    """Give r(i, j) of point 7 as a list of lists, reckoned without the program."""
    many = len(row)
    masks = border_masks(row)
    counts = []
    for i in range(many + 1):
        basis, found = {}, [0]
        for mask in masks:
            rest = mask >> i
            while rest and rest.bit_length() in basis:
                rest ^= basis[rest.bit_length()]
            if rest:
                basis[rest.bit_length()] = rest
            found.append(len(basis))
        counts.append(found)
    return counts


def pairs_by_counts(row):
    """Give the pairs by the counts r(i, j) of point 7."""
    r = independent_counts(row)
    many = len(row)
    return [(i, j) for i in range(many) for j in range(many)
            if r[i][j + 1] - r[i + 1][j + 1] - r[i][j] + r[i + 1][j] == 1]


class ReducedTest(unittest.TestCase):

    def check(self, row, told):
        self.assertEqual(reduced(Shape(row)), told)

    def test_nothing_and_a_point(self):
        self.check([], [])
        self.check([(0,)], [([], [0])])
        self.check([(0,), (7,)], [([], [0]), ([], [1])])

    def test_an_edge(self):
        self.check([(0,), (1,), (0, 1)], [([], [0]), ([], [1]), ([0, 1], [2])])

    def test_a_triangle_without_and_with_its_face(self):
        outline = [([], [0]), ([], [1]), ([], [2]), ([0, 1], [3]), ([0, 2], [4]), ([], [3, 4, 5])]
        self.check(OUTLINE_ROW, outline)
        self.check(TRIANGLE_ROW, outline + [([3, 4, 5], [6])])

    def test_a_hollow_tetrahedron_and_a_filled_one(self):
        self.check(HOLLOW_ROW, FILLED_REDUCED[:14])
        self.check(FILLED_ROW, FILLED_REDUCED)

    def test_a_way_out_of_order(self):
        self.check(WAY_ROW, WAY_REDUCED)

    def test_its_kinds(self):
        for entry in reduced(Shape(FILLED_ROW)):
            self.assertIs(type(entry), tuple)
            self.assertEqual([type(part) for part in entry], [list, list])

    def test_drawn_shapes(self):
        for row in drawn_rows():
            shape = Shape(row)
            told = reduced(shape)
            self.assertEqual(len(told), len(row))
            lasts = [left[-1] for left, _ in told if left]
            self.assertEqual(len(lasts), len(set(lasts)))
            for number, (left, total) in enumerate(told):
                self.assertEqual(left, shape.border(total))
                self.assertEqual(total[-1], number)
                self.assertEqual(total, sorted(set(total)))
                self.assertEqual({len(row[k]) for k in total}, {len(row[number])})
                self.assertTrue(all(k < number for k in left))

    def test_drawn_shapes_step_by_step(self):
        for row in drawn_rows():
            numbers = {piece: number for number, piece in enumerate(row)}
            before = []
            for number, piece in enumerate(row):
                around = [piece[:at] + piece[at + 1:] for at in range(len(piece))]
                left = sorted(numbers[side] for side in around if side)
                total = [number]
                while left:
                    same = [k for k in range(number) if before[k][0] and before[k][0][-1] == left[-1]]
                    if not same:
                        break
                    left = added(left, before[same[0]][0])
                    total = added(total, before[same[0]][1])
                before.append((left, total))
            self.assertEqual(reduced(Shape(row)), before)

    def test_a_maker_is_filled_by_a_size_greater_by_one(self):
        for row in drawn_rows():
            told = reduced(Shape(row))
            for number, (left, _) in enumerate(told):
                if left:
                    self.assertEqual(told[left[-1]][0], [])
                    self.assertEqual(len(row[left[-1]]) + 1, len(row[number]))


class PairsTest(unittest.TestCase):

    def check(self, row, found, unfilled):
        for reckon in (pairs, pairs_from_behind):
            self.assertEqual(reckon(Shape(row)), (found, unfilled))

    def test_small_shapes(self):
        self.check([], [], [])
        self.check([(4,)], [], [0])
        self.check([(4,), (2,)], [], [0, 1])
        self.check([(0,), (1,), (0, 1)], [(1, 2)], [0])
        self.check(OUTLINE_ROW, [(1, 3), (2, 4)], [0, 5])
        self.check(TRIANGLE_ROW, [(1, 3), (2, 4), (5, 6)], [0])
        self.check(HOLLOW_ROW, [(1, 4), (2, 5), (3, 6), (7, 10), (8, 11), (9, 12)], [0, 13])
        self.check(FILLED_ROW, [(1, 4), (2, 5), (3, 6), (7, 10), (8, 11), (9, 12), (13, 14)], [0])

    def test_fillers_that_do_not_rise(self):
        self.check(WAY_ROW, [(1, 2), (3, 6), (4, 5)], [0, 7, 8])

    def test_the_younger_of_two_rings_is_filled(self):
        row = OUTLINE_ROW + [(3,), (0, 3), (1, 3), (0, 1, 3), (0, 1, 2)]
        self.check(row, [(1, 3), (2, 4), (5, 10), (6, 7), (8, 9)], [0])
        row = OUTLINE_ROW + [(3,), (0, 3), (2, 3), (1, 3), (0, 1, 2)]
        self.check(row, [(1, 3), (2, 4), (5, 10), (6, 7)], [0, 8, 9])

    def test_their_kinds(self):
        for reckon in (pairs, pairs_from_behind):
            told = reckon(Shape(FILLED_ROW))
            self.assertIs(type(told), tuple)
            self.assertEqual([type(part) for part in told], [list, list])
            self.assertTrue(all(type(pair) is tuple for pair in told[0]))
            self.assertTrue(all(type(number) is int for pair in told[0] for number in pair))

    def test_drawn_shapes_against_the_counts(self):
        for row in drawn_rows():
            found = pairs_by_counts(row)
            taken = {number for pair in found for number in pair}
            self.check(row, found, [k for k in range(len(row)) if k not in taken])

    def test_against_what_is_left(self):
        for row in drawn_rows():
            left = [left for left, _ in reduced(Shape(row))]
            found = sorted((heap[-1], k) for k, heap in enumerate(left) if heap)
            makers = [k for k, heap in enumerate(left) if not heap]
            filled = [maker for maker, _ in found]
            self.check(row, found, [k for k in makers if k not in filled])


class OwnTest(unittest.TestCase):

    def test_what_is_reduced_is_the_askers_own(self):
        shape = Shape(FILLED_ROW)
        told = reduced(shape)
        lists = [part for entry in told for part in entry] + [told]
        self.assertEqual(len({id(part) for part in lists}), len(lists))
        for part in lists:
            part.append(99)
            part.reverse()
            self.assertEqual(reduced(shape), FILLED_REDUCED)
        told.clear()
        self.assertEqual(reduced(shape), FILLED_REDUCED)
        self.assertEqual([shape.sides_of(k) for k in (4, 10, 14)],
                         [[0, 1], [4, 5, 7], [10, 11, 12, 13]])

    def test_the_pairs_are_the_askers_own(self):
        shape = Shape(OUTLINE_ROW)
        for reckon in (pairs, pairs_from_behind):
            told = reckon(shape)
            for part in told:
                part.append((9, 9))
                part.reverse()
            self.assertEqual(pairs(shape), ([(1, 3), (2, 4)], [0, 5]))
            self.assertEqual(pairs_from_behind(shape), ([(1, 3), (2, 4)], [0, 5]))

    def test_the_shape_stays(self):
        shape = Shape(FILLED_ROW)
        reduced(shape)
        pairs(shape)
        pairs_from_behind(shape)
        self.assertEqual(shape.pieces(), FILLED_ROW)
        self.assertEqual(shape.uppers_of(0), [4, 5, 6])
        self.assertEqual([shape.sides_of(k) for k in range(4, 7)], [[0, 1], [0, 2], [0, 3]])

    def test_what_comes_later_changes_nothing_told(self):
        shape = Shape(OUTLINE_ROW)
        told, left = pairs(shape), reduced(shape)
        shape.put((0, 1, 2))
        self.assertEqual(told, ([(1, 3), (2, 4)], [0, 5]))
        self.assertEqual(left[5], ([], [3, 4, 5]))
        self.assertEqual(pairs(shape), ([(1, 3), (2, 4), (5, 6)], [0]))
        shape.cut()
        self.assertEqual(pairs(shape), told)
        self.assertEqual(reduced(shape), left)

    def test_alike_shapes_are_told_the_same(self):
        for row in drawn_rows()[:6]:
            grown = Shape(row[:-1])
            grown.put((500,))
            grown.cut()
            grown.put(row[-1])
            self.assertEqual(reduced(grown), reduced(Shape(row)))
            self.assertEqual(pairs(grown), pairs(Shape(row)))
            self.assertEqual(pairs_from_behind(grown), pairs(Shape(row)))

    def test_of_an_exchanged_shape(self):
        other = exchanged(Shape(OUTLINE_ROW), 4)
        self.assertEqual(reduced(other)[3:], [([0, 1], [3]), ([1, 2], [4]), ([], [3, 4, 5])])
        self.assertEqual(pairs(other), ([(1, 3), (2, 4)], [0, 5]))


if __name__ == "__main__":
    unittest.main()
