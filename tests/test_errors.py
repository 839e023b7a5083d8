"""The refusals and how they stand to one another."""

import itertools
import unittest

from unlikerow.errors import NoCommand, NoNeeds, NoPlace, NoRow, NoTable, NoWindow, RowError

REFUSALS = [NoTable, NoWindow, NoNeeds, NoPlace, NoRow, NoCommand]


class Refusals(unittest.TestCase):
    def test_any_refusal_is_a_value_error(self):
        self.assertTrue(issubclass(RowError, ValueError))

    def test_each_stands_under_row_error(self):
        for refusal in REFUSALS:
            with self.subTest(refusal=refusal.__name__):
                self.assertTrue(issubclass(refusal, RowError))
                self.assertFalse(issubclass(RowError, refusal))

    def test_none_stands_under_another(self):
        for one, other in itertools.permutations(REFUSALS, 2):
            with self.subTest(one=one.__name__, other=other.__name__):
                self.assertFalse(issubclass(one, other))

    def test_each_is_raised_with_words(self):
        for refusal in [RowError] + REFUSALS:
            with self.subTest(refusal=refusal.__name__), self.assertRaises(ValueError) as caught:
                raise refusal("some words")
            self.assertEqual(str(caught.exception), "some words")


if __name__ == "__main__":
    unittest.main()
