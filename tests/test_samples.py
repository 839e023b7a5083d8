"""The rows the other tests lean on are as wide and as great as the document bounds them."""

import unittest

from samples import GREAT, long_rows


class Samples(unittest.TestCase):
    def test_lengths_numbers_and_unlike_ones(self):
        rows = long_rows()
        self.assertEqual({len(row) for row in rows}, {0, 1, 12, 40, 300})
        self.assertTrue(any(len(row) == 300 and len(set(row)) == 3 for row in rows))
        self.assertTrue(any(200 < len(set(row)) < 300 == len(row) for row in rows))
        numbers = [number for row in rows for number in row]
        self.assertEqual((min(numbers), max(numbers)), (-GREAT, GREAT))


if __name__ == "__main__":
    unittest.main()
