"""The interface of countboard/errors.py."""

import unittest

from countboard import errors

REFUSALS = ["NoFrame", "NoBoard", "NoNumber", "NoStep", "NoWay", "TooLong", "NoLess", "NoNote"]


class Refusals(unittest.TestCase):
    def test_board_error_is_straight_under_value_error(self):
        self.assertEqual(errors.BoardError.__bases__, (ValueError,))

    def test_each_refusal_is_straight_under_board_error(self):
        for name in REFUSALS:
            with self.subTest(name=name):
                refusal = getattr(errors, name)
                self.assertEqual(refusal.__bases__, (errors.BoardError,))
                self.assertEqual(refusal.__name__, name)

    def test_each_refusal_is_a_class_of_its_own(self):
        self.assertEqual(len({getattr(errors, name) for name in REFUSALS}), 8)

    def test_a_refusal_is_taken_as_board_error_and_as_value_error_but_as_no_other(self):
        for name in REFUSALS:
            refusal = getattr(errors, name)("words")
            self.assertIsInstance(refusal, errors.BoardError)
            self.assertIsInstance(refusal, ValueError)
            for other in REFUSALS:
                self.assertEqual(isinstance(refusal, getattr(errors, other)), other == name)


if __name__ == "__main__":
    unittest.main()
