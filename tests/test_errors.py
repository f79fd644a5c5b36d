"""Point 2 and the interface: the refusals."""

import unittest

from callwishes.errors import NoSheet, NoText, NoWish, TooMany, WishError


class Refusals(unittest.TestCase):
    def test_wish_error_is_a_value_error(self):
        self.assertEqual(WishError.__bases__, (ValueError,))

    def test_each_stands_straight_under_wish_error(self):
        for refusal in (TooMany, NoWish, NoText, NoSheet):
            self.assertEqual(refusal.__bases__, (WishError,), refusal)

    def test_those_without_a_row_are_made_with_a_text(self):
        for refusal in (WishError, TooMany, NoWish):
            self.assertEqual(str(refusal("so many")), "so many")

    def test_those_with_a_row_are_made_with_it(self):
        for refusal in (NoText, NoSheet):
            for row in (0, 7):
                self.assertEqual(refusal(row).row, row)

    def test_a_row_is_told_when_raised_and_caught(self):
        for refusal in (NoText, NoSheet):
            with self.assertRaises(WishError) as caught:
                raise refusal(3)
            self.assertEqual(caught.exception.row, 3)
            self.assertIsInstance(caught.exception, refusal)

    def test_none_is_caught_as_another(self):
        refusals = (TooMany("x"), NoWish("x"), NoText(1), NoSheet(1))
        for one in refusals:
            for other in refusals:
                self.assertEqual(isinstance(one, other.__class__), one is other)


if __name__ == "__main__":
    unittest.main()
