"""Texts: shapes written and read, and the texts that are refused."""

import unittest

from holepairs.errors import BadPiece, BadText, Full, Lacking, Twice
from holepairs.shapes import Shape
from holepairs.texts import read, written
from tests.helpers import (BALL_ROW, FILLED_ROW, OUTLINE_ROW, SQUARE_ROW, TRIANGLE_ROW, WAY_ROW,
                           drawn_rows, full_row, look, no_texts)

MOST = 10 ** 60


class WrittenTest(unittest.TestCase):

    def test_the_empty_shape(self):
        self.assertEqual(written(Shape()), "")

    def test_small_shapes(self):
        self.assertEqual(written(Shape([(0,)])), "0")
        self.assertEqual(written(Shape([(7,), (12,)])), "7\n12")
        self.assertEqual(written(Shape([(7,), (12,), (7, 12)])), "7\n12\n7 12")
        self.assertEqual(written(Shape(TRIANGLE_ROW)), "0\n1\n2\n0 1\n0 2\n1 2\n0 1 2")
        self.assertEqual(written(Shape(FILLED_ROW)).split("\n")[-1], "0 1 2 3")

    def test_far_corners(self):
        far = "1" + "0" * 60
        self.assertEqual(written(Shape([(MOST,), (0,), (0, MOST)])), far + "\n0\n0 " + far)

    def test_the_shape_stays(self):
        shape = Shape(FILLED_ROW)
        before = look(shape)
        self.assertIs(type(written(shape)), str)
        self.assertEqual(look(shape), before)
        self.assertEqual(written(shape), written(shape))


class ReadTest(unittest.TestCase):

    def test_the_empty_text(self):
        shape = read("")
        self.assertIs(type(shape), Shape)
        self.assertEqual(shape.pieces(), [])

    def test_small_texts(self):
        self.assertEqual(read("0").pieces(), [(0,)])
        self.assertEqual(read("7\n12\n7 12").pieces(), [(7,), (12,), (7, 12)])
        self.assertEqual(read("0\n1\n2\n0 1\n0 2\n1 2\n0 1 2").pieces(), TRIANGLE_ROW)
        self.assertEqual(read("100\n10\n10 100").pieces(), [(100,), (10,), (10, 100)])

    def test_far_corners(self):
        far = "1" + "0" * 60
        self.assertEqual(read(far).pieces(), [(MOST,)])
        self.assertEqual(read("9" * 60 + "\n" + far).pieces(), [(MOST - 1,), (MOST,)])
        shape = read("0\n" + far + "\n0 " + far)
        self.assertEqual(shape.pieces(), [(0,), (MOST,), (0, MOST)])

    def test_what_is_written_is_read_as_the_same_shape(self):
        rows = [[], [(0,)], OUTLINE_ROW, TRIANGLE_ROW, FILLED_ROW, WAY_ROW, SQUARE_ROW, BALL_ROW,
                [(MOST,), (MOST - 1,), (MOST - 1, MOST)], full_row()] + drawn_rows()
        for row in rows:
            shape = Shape(row)
            other = read(written(shape))
            self.assertIs(type(other), Shape)
            self.assertEqual(look(other), look(shape))
            self.assertEqual(written(other), written(shape))

    def test_it_is_another_shape_each_time(self):
        one, other = read("0\n1"), read("0\n1")
        one.put((0, 1))
        self.assertEqual((one.many(), other.many()), (3, 2))
        self.assertEqual(read("0\n1").many(), 2)


class BadTextTest(unittest.TestCase):

    def refused(self, text, line):
        with self.assertRaises(BadText) as caught:
            read(text)
        self.assertIs(type(caught.exception), BadText)
        self.assertEqual(caught.exception.line, line, repr(text))

    def test_what_is_no_text(self):
        for thing in no_texts():
            with self.assertRaises(BadText) as caught:
                read(thing)
            self.assertEqual(caught.exception.line, 1)

    def test_bad_lines(self):
        bad = ["0  1", " 0", "0 ", " ", "  ", " 0 1", "0 1 ", "00", "01", "0 01", "01 2", "-1",
               "+1", "-0", "+0", "0 -1", "0 +1", "0,1", "0, 1", "0\t1", "\t0", "0\t", "a", "0x1",
               "1e3", "1.0", "1_0", "1 a", "a 1", "(0,)", "0\r", "\r", "0\x0b1", "0\x0c", "0\x1c1",
               "0\x1e", "0\x00", "\x7f", "None", "True", "1" * 62, "0 " + "9" * 62,
               "1" + "0" * 61, "0" * 61, "0" * 62, "0" + "1" * 60, "1" * 4000]
        for line in bad:
            self.refused(line, 1)
            self.refused(line + "\n0", 1)
            self.refused("0\n" + line, 2)
            self.refused("0\n1\n" + line + "\n0 1", 3)

    def test_empty_lines(self):
        self.refused("\n", 1)
        self.refused("\n\n", 1)
        self.refused("\n0", 1)
        self.refused("0\n", 2)
        self.refused("0\n1\n", 3)
        self.refused("0\n\n1", 2)
        self.refused("0\n1\n\n0 1\n", 3)
        self.refused(written(Shape(FILLED_ROW)) + "\n", 16)

    def test_other_line_ends(self):
        self.refused("0\r\n1", 1)
        self.refused("0\r1", 1)
        self.refused("0\x0c1", 1)

    def test_the_first_bad_line_is_told(self):
        self.refused("0\n 1\n00\n", 2)
        self.refused("0\n1\n0  1\n\n-1", 3)

    def test_a_later_line_is_told_ahead_of_pieces(self):
        self.refused("1 0\n0 \n", 2)
        self.refused("0\n0\n0 9\n1 1\nx", 5)
        self.refused("0 1 2 3 4\n" + "9" * 61 + "\n", 3)
        texts = [" ".join(map(str, piece)) for piece in full_row()]
        self.refused("\n".join(texts + ["1000", "1001", "01"]), 203)


class RefusedPiecesTest(unittest.TestCase):

    def refused(self, text, kind):
        with self.assertRaises(kind) as caught:
            read(text)
        self.assertIs(type(caught.exception), kind)
        return caught.exception

    def test_bad_pieces(self):
        for line in ["1 0", "0 0", "0 1 1", "0 1 2 3 4", "9" * 61, "1" + "0" * 59 + "1",
                     "0 " + "9" * 61, " ".join(["0"] * 1000)]:
            self.assertEqual(self.refused(line, BadPiece).at, 0)
            self.assertEqual(self.refused("0\n1\n" + line + "\n2", BadPiece).at, 2)

    def test_twice(self):
        self.assertEqual(self.refused("0\n0", Twice).at, 1)
        self.assertEqual(self.refused("0\n1\n0 1\n1\n0 1", Twice).at, 3)

    def test_lacking(self):
        error = self.refused("0\n0 7", Lacking)
        self.assertEqual((error.at, error.side), (1, (7,)))
        error = self.refused("0\n1\n2\n0 1\n0 1 2", Lacking)
        self.assertEqual((error.at, error.side), (4, (0, 2)))
        error = self.refused("0 1\n0\n1", Lacking)
        self.assertEqual((error.at, error.side), (0, (0,)))

    def test_two_hundred_and_one_pieces(self):
        text = written(Shape(full_row()))
        self.assertEqual(read(text).many(), 200)
        self.refused(text + "\n1000", Full)
        self.refused(text + "\n1000\n1000", Full)
        self.assertEqual(self.refused(text + "\n1 0", BadPiece).at, 200)
        self.assertEqual(self.refused(text + "\n0", Twice).at, 200)
        self.assertEqual(self.refused(text + "\n0 1000", Lacking).at, 200)

    def test_the_first_of_several_is_told(self):
        self.assertEqual(self.refused("0\n0\n1 0\n5 6", Twice).at, 1)
        self.assertEqual(self.refused("0\n1 0\n0\n5 6", BadPiece).at, 1)
        self.assertEqual(self.refused("0\n5 6\n0\n1 0", Lacking).at, 1)


if __name__ == "__main__":
    unittest.main()
