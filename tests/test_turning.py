"""Turning: what becomes of the pairs when neighbours change places."""

import unittest

from holepairs.errors import BadTurn, NoPiece
from holepairs.reckoning import pairs
from holepairs.shapes import Shape, exchanged
from holepairs.turning import turn_word
from tests.helpers import (BALL_ROW, FILLED_ROW, OUTLINE_ROW, SQUARE_ROW, TRIANGLE_ROW, WAY_ROW,
                           all_sides, drawn_rows, look, no_numbers)


def words(row):
    """Give the word of each place of a row, and None where the two can't change places."""
    told = []
    for number in range(len(row) - 1):
        if row[number] in all_sides(row[number + 1]):
            told.append(None)
        else:
            told.append(turn_word(Shape(row), number))
    return told


def moved(told, number):
    """Give pairs and unfilled makers with the numbers of two neighbours exchanged."""
    places = {number: number + 1, number + 1: number}
    found = sorted((places.get(one, one), places.get(other, other)) for one, other in told[0])
    return found, sorted(places.get(maker, maker) for maker in told[1])


class WordsTest(unittest.TestCase):

    def test_two_points(self):
        self.assertEqual(words([(0,), (1,)]), ["same"])
        self.assertEqual(words([(0,), (1,), (0, 1)]), ["swapped", None])
        self.assertEqual(words([(0,), (1,), (2,), (0, 1)])[:2], ["swapped", "same"])
        self.assertEqual(words([(0,), (1,), (2,), (0, 2)])[:2], ["same", "same"])
        self.assertEqual(words([(0,), (1,), (2,), (1, 2)])[:2], ["same", "swapped"])

    def test_a_triangle(self):
        self.assertEqual(words(OUTLINE_ROW), ["swapped", "same", "same", "same", "swapped"])
        self.assertEqual(words(TRIANGLE_ROW), ["swapped", "same", "same", "same", "swapped", None])

    def test_pieces_of_unlike_sizes(self):
        self.assertEqual(words([(0,), (1,), (0, 1), (2,), (0, 2), (1, 2)]),
                         ["swapped", None, "same", None, "swapped"])
        self.assertEqual(turn_word(Shape(TRIANGLE_ROW + [(3,)]), 6), "same")
        self.assertEqual(turn_word(Shape(FILLED_ROW + [(9,)]), 14), "same")
        self.assertEqual(turn_word(Shape(OUTLINE_ROW[:4] + [(4,), (0, 2)]), 3), "same")

    def test_two_faces(self):
        row = OUTLINE_ROW + [(3,), (0, 3), (1, 3), (0, 1, 2), (0, 1, 3)]
        self.assertEqual(turn_word(Shape(row), 9), "same")
        row = SQUARE_ROW[:10] + [(0, 1, 3), (1, 2, 3), (0, 2, 3), (0, 1, 2)]
        self.assertEqual(pairs(Shape(row))[1], [0, 13])
        # Of the two last faces the later one makes a hole, whichever it is.
        self.assertEqual(turn_word(Shape(row), 12), "swapped")

    def test_its_kind(self):
        self.assertIs(type(turn_word(Shape([(0,), (1,)]), 0)), str)

    def test_drawn_shapes(self):
        told = []
        for row in drawn_rows() + [SQUARE_ROW, WAY_ROW, FILLED_ROW, BALL_ROW]:
            shape = Shape(row)
            before = pairs(shape)
            for number in range(0, len(row) - 1, 1 if len(row) < 100 else 3):
                if row[number] in all_sides(row[number + 1]):
                    continue
                now = pairs(exchanged(shape, number))
                word = turn_word(shape, number)
                told.append(word)
                if now == moved(before, number):
                    self.assertEqual(word, "same")
                else:
                    self.assertEqual(word, "swapped")
                    self.assertEqual(now, before)
                    self.assertEqual(len(row[number]), len(row[number + 1]))
        self.assertEqual(set(told), {"same", "swapped"})

    def test_back_again_it_is_the_same_word(self):
        for row in drawn_rows()[:6]:
            for number, word in enumerate(words(row)):
                if word is not None:
                    self.assertEqual(turn_word(exchanged(Shape(row), number), number), word)


class RefusedTest(unittest.TestCase):

    def refused(self, row, thing, kind):
        shape = Shape(row)
        before = look(shape)
        with self.assertRaises(kind) as caught:
            turn_word(shape, thing)
        self.assertIs(type(caught.exception), kind)
        self.assertEqual(look(shape), before)

    def test_bad_turns(self):
        for row, number in [([(0,), (1,), (0, 1)], 1), (TRIANGLE_ROW, 5), (FILLED_ROW, 13),
                            ([(1,), (0,), (0, 1)], 1)]:
            self.refused(row, number, BadTurn)

    def test_where_one_of_both_is_not_there(self):
        for row in [[(0,), (1,)], OUTLINE_ROW, FILLED_ROW]:
            for thing in no_numbers(len(row)) + [len(row) - 1]:
                self.refused(row, thing, NoPiece)

    def test_short_shapes(self):
        for row in [[], [(0,)]]:
            for thing in [0, -1, 1, None, False, "0", []]:
                self.refused(row, thing, NoPiece)

    def test_the_shape_stays(self):
        shape = Shape(OUTLINE_ROW)
        before = look(shape)
        for number in range(5):
            turn_word(shape, number)
        self.assertEqual(look(shape), before)


if __name__ == "__main__":
    unittest.main()
