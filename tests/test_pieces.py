"""Pieces, sides and the sum of two heaps."""

import unittest
from random import Random

from holepairs.pieces import added, is_piece, sides
from tests.helpers import Odd, Posing, all_sides, no_tuples, wayward

MOST = 10 ** 60


class IsPieceTest(unittest.TestCase):

    def assert_piece(self, thing):
        self.assertIs(is_piece(thing), True, thing)

    def assert_none(self, thing):
        self.assertIs(is_piece(thing), False)

    def test_one_to_four_corners(self):
        for piece in [(5,), (5, 6), (5, 6, 9), (5, 6, 9, 100)]:
            self.assert_piece(piece)

    def test_least_and_greatest_corner(self):
        for piece in [(0,), (MOST,), (0, MOST), (0, 1, MOST - 1, MOST)]:
            self.assert_piece(piece)

    def test_corners_out_of_bounds(self):
        for piece in [(-1,), (MOST + 1,), (-1, 0), (0, MOST + 1), (-MOST, 0, 1),
                      (0, 1, 2, MOST * 10), (-2, -1)]:
            self.assert_none(piece)

    def test_corners_that_do_not_rise(self):
        for piece in [(1, 0), (0, 2, 1), (1, 0, 2), (2, 1, 0), (0, 1, 3, 2), (1, 0, 2, 3),
                      (0, 2, 1, 3)]:
            self.assert_none(piece)

    def test_alike_corners(self):
        for piece in [(0, 0), (0, 1, 1), (0, 0, 1), (0, 1, 2, 2), (0, 1, 1, 2)]:
            self.assert_none(piece)

    def test_none_and_too_many_corners(self):
        self.assert_none(())
        self.assert_none((0, 1, 2, 3, 4))
        self.assert_none(tuple(range(1000)))

    def test_a_list_in_the_place_of_the_tuple(self):
        for thing in [[0], [0, 1], [0, 1, 2], []]:
            self.assert_none(thing)

    def test_corners_that_are_no_whole_numbers(self):
        odd = [True, False, None, "0", "", b"0", 0.0, 1.0, float("nan"), 1j, (), (0,), [], [0],
               {}, set(), int, object(), Odd(), Posing(int), *wayward(), *wayward(int, 3)]
        for corner in odd:
            for piece in [(corner,), (0, corner), (corner, 5), (0, 1, corner), (0, corner, 5, 6)]:
                self.assert_none(piece)

    def test_true_and_false_where_they_would_rise(self):
        for piece in [(False,), (True,), (False, True), (0, True), (False, 1), (True, 2, 3, 4)]:
            self.assert_none(piece)

    def test_things_that_are_no_tuple(self):
        for thing in no_tuples():
            self.assert_none(thing)


class SidesTest(unittest.TestCase):

    def test_one_corner_has_none(self):
        self.assertEqual(sides((0,)), [])
        self.assertEqual(sides((MOST,)), [])

    def test_of_each_size(self):
        self.assertEqual(sides((3, 8)), [(3,), (8,)])
        self.assertEqual(sides((3, 8, 9)), [(3, 8), (3, 9), (8, 9)])
        self.assertEqual(sides((0, 3, 8, MOST)),
                         [(0, 3, 8), (0, 3, MOST), (0, 8, MOST), (3, 8, MOST)])

    def test_rising_and_complete(self):
        for piece in [(0, 1), (5, 10), (2, 10, 11), (9, 10, 100), (1, 2, 10, 11)]:
            told = sides(piece)
            self.assertIs(type(told), list)
            self.assertEqual(told, sorted(all_sides(piece)))
            self.assertTrue(all(is_piece(side) for side in told))

    def test_the_told_list_is_the_askers_own(self):
        for piece in [(4,), (0, 1), (0, 1, 2, 3)]:
            told = sides(piece)
            before = list(told)
            told.append("other")
            told.reverse()
            self.assertEqual(sides(piece), before)


class AddedTest(unittest.TestCase):

    def test_numbers_that_stand_in_just_one(self):
        self.assertEqual(added([0, 2, 5], [1, 2, 7]), [0, 1, 5, 7])
        self.assertEqual(added([10, 200], [9, 100]), [9, 10, 100, 200])
        self.assertEqual(added([0, 1, 2], [1]), [0, 2])
        self.assertEqual(added([1], [0, 1, 2]), [0, 2])

    def test_alike_and_empty_heaps(self):
        self.assertEqual(added([1, 4], [1, 4]), [])
        self.assertEqual(added([], []), [])
        self.assertEqual(added([], [3, 4]), [3, 4])
        self.assertEqual(added([3, 4], []), [3, 4])
        heap = [0, 7]
        self.assertEqual(added(heap, heap), [])
        self.assertEqual(heap, [0, 7])

    def test_the_heaps_stay_and_are_not_kept(self):
        for one, other in [([0, 2], [1, 2]), ([], [1, 2]), ([1, 2], []), ([], [])]:
            first, second = list(one), list(other)
            told = added(first, second)
            before = list(told)
            self.assertEqual((first, second), (one, other))
            told.append(99)
            self.assertEqual((first, second), (one, other))
            told.pop()
            first.append(77)
            second.append(88)
            self.assertEqual(told, before)
            self.assertEqual(added(one, other), before)

    def test_drawn_heaps(self):
        draw = Random(1)
        for _ in range(50):
            one = sorted(draw.sample(range(200), draw.randrange(40)))
            other = sorted(draw.sample(range(200), draw.randrange(40)))
            told = added(one, other)
            self.assertIs(type(told), list)
            self.assertEqual(told, [k for k in range(200) if (k in one) != (k in other)])
            self.assertEqual(added(other, one), told)
            self.assertEqual(added(told, other), one)


if __name__ == "__main__":
    unittest.main()
