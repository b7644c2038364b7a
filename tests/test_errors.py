"""The refusals: their kinds and their fields."""

import unittest

from holepairs import errors
from holepairs.errors import (BadPiece, BadRow, BadText, BadTurn, Full, HoleError, Lacking,
                              NoPiece, Twice)

MADE = [BadRow("words"), BadPiece(3), Twice(4), Lacking(5, (1, 2)), Full("words"),
        NoPiece("words"), BadTurn("words"), BadText(6)]


class KindsTest(unittest.TestCase):

    def test_every_refusal_is_a_hole_error_and_a_value_error(self):
        for error in MADE:
            with self.subTest(error=type(error)):
                self.assertIsInstance(error, HoleError)
                self.assertIsInstance(error, ValueError)

    def test_each_stands_straight_under_hole_error(self):
        self.assertEqual(HoleError.__bases__, (ValueError,))
        for error in MADE:
            self.assertEqual(type(error).__bases__, (HoleError,))

    def test_none_is_another_one(self):
        kinds = [type(error) for error in MADE]
        self.assertEqual(len(set(kinds)), 8)
        for error in MADE:
            self.assertEqual([kind for kind in kinds if isinstance(error, kind)], [type(error)])

    def test_those_without_fields_need_no_words(self):
        for kind in (HoleError, BadRow, Full, NoPiece, BadTurn):
            with self.assertRaises(kind):
                raise kind()

    def test_all_are_defined_in_their_file(self):
        for kind in [HoleError] + [type(error) for error in MADE]:
            self.assertEqual(kind.__module__, "holepairs.errors")
            self.assertIs(getattr(errors, kind.__name__), kind)


class FieldsTest(unittest.TestCase):

    def test_at(self):
        self.assertEqual(BadPiece(3).at, 3)
        self.assertEqual(Twice(4).at, 4)
        self.assertEqual(Lacking(5, (1, 2)).at, 5)

    def test_side(self):
        self.assertEqual(Lacking(5, (1, 2)).side, (1, 2))

    def test_line(self):
        self.assertEqual(BadText(6).line, 6)

    def test_fields_by_their_names(self):
        self.assertEqual(BadPiece(at=0).at, 0)
        self.assertEqual(Twice(at=0).at, 0)
        lacking = Lacking(side=(7,), at=1)
        self.assertEqual((lacking.at, lacking.side), (1, (7,)))
        self.assertEqual(BadText(line=1).line, 1)

    def test_each_can_be_read_as_words(self):
        for error in (BadPiece(3), Twice(3), Lacking(3, (1,)), BadText(3)):
            self.assertIn("3", str(error))


if __name__ == "__main__":
    unittest.main()
