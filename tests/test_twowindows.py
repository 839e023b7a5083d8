"""Points 1, 30 and 31: two windows of a row, and the two of a width that are most alike."""

import itertools
import math
import unittest
from fractions import Fraction

from samples import (Case, GREAT, all_alike, all_unlike, all_windows, each_so_often, great_rows, long_rows, random_row,
                     round_and_round, short_rows, some_windows)
from unlikerow.twowindows import in_any, in_both, most_alike, share


def numbers_of(row, window):
    return [number for place, number in enumerate(row) if window[0] <= place < window[1]]


def both_by_looking(row, one, other):
    return len({number for number in numbers_of(row, one) if number in numbers_of(row, other)})


def any_by_looking(row, one, other):
    return len(set(numbers_of(row, one) + numbers_of(row, other)))


def share_by_looking(row, one, other):
    whole = any_by_looking(row, one, other)
    return Fraction(both_by_looking(row, one, other), whole) if whole else Fraction(1)


def most_alike_by_trying(row, width):
    length = len(row)
    held = [set(row[first:first + width]) for first in range(length - width + 1)]
    pairs = [(first, second) for first in range(len(held)) for second in range(first + width, len(held))]
    shares = {}
    for one, other in pairs:
        shares[one, other] = Fraction(len(held[one] & held[other]), len(held[one] | held[other]))
    if not pairs:
        return None
    one, other = min(pairs, key=lambda pair: (-shares[pair], pair))
    return (one, other, (shares[one, other].numerator, shares[one, other].denominator))


def some_pairs(row):
    """Windows anywhere, alike, within one another, beside one another and of width 0."""
    windows = some_windows(row)
    length, half = len(row), len(row) // 2
    pairs = [(one, one) for one in windows[::17]] + list(zip(windows[::5], reversed(windows[::5])))
    for one in windows[::13]:
        pairs += [(one, (0, length)), (one, (0, 0)), (one, (length, length)), (one, (one[0], one[0]))]
        pairs += [(one, (0, one[0])), (one, (one[1], length)), (one, (half, length))]
        pairs += [(one, (one[0], half + one[0] // 2))]
    return [(one, other) for one, other in pairs if one[0] <= one[1] and other[0] <= other[1]]


class TwoWindows(Case):
    def assert_two(self, row, one, other):
        both, whole, part = in_both(row, one, other), in_any(row, one, other), share(row, one, other)
        self.assertEqual(both, both_by_looking(row, one, other), (row, one, other))
        self.assertEqual(whole, any_by_looking(row, one, other), (row, one, other))
        self.assert_whole(both, whole)
        self.assert_tuple_of_whole(part, 2)
        right = share_by_looking(row, one, other)
        self.assertEqual(part, (right.numerator, right.denominator), (row, one, other))
        self.assertEqual(math.gcd(part[0], part[1]), 1)
        for ask in (in_both, in_any, share):
            self.assertEqual(ask(row, other, one), ask(row, one, other))

    def test_written_out(self):
        row = [3, -1, 3, 3, 5, -1, 8, 9]
        for one, other, both, whole, part in (((0, 3), (2, 6), 2, 3, (2, 3)), ((0, 2), (2, 4), 1, 2, (1, 2)),
                                              ((0, 2), (4, 5), 0, 3, (0, 1)), ((0, 8), (0, 2), 2, 5, (2, 5)),
                                              ((0, 3), (1, 4), 2, 2, (1, 1)), ((0, 6), (4, 8), 2, 5, (2, 5)),
                                              ((1, 5), (4, 8), 2, 5, (2, 5)), ((0, 8), (4, 7), 3, 5, (3, 5))):
            self.assertEqual((in_both(row, one, other), in_any(row, one, other), share(row, one, other)),
                             (both, whole, part), (one, other))

    def test_a_share_with_nothing_in_common(self):
        row = [1, 2, 3, 4, 5, 6, 1, 2, 7, 8]
        self.assertEqual((in_both(row, (0, 6), (6, 8)), in_any(row, (0, 6), (6, 8))), (2, 6))
        self.assertEqual(share(row, (0, 6), (6, 8)), (1, 3))
        self.assertEqual(share(row, (0, 4), (4, 6)), (0, 1))
        self.assertEqual(share(row, (0, 6), (6, 10)), (1, 4))
        wide = list(range(150)) + list(range(50, 200))
        self.assertEqual((in_both(wide, (0, 150), (150, 300)), in_any(wide, (0, 150), (150, 300))), (100, 200))
        self.assertEqual(share(wide, (0, 150), (150, 300)), (1, 2))

    def test_windows_without_numbers(self):
        for row in ([], [4], [4, 4, 6], random_row(91, 300, list(range(9)))):
            length = len(row)
            for one, other in itertools.product({(0, 0), (length // 2,) * 2, (length, length)}, repeat=2):
                self.assertEqual((in_both(row, one, other), in_any(row, one, other)), (0, 0))
                self.assertEqual(share(row, one, other), (1, 1))
                self.assert_tuple_of_whole(share(row, one, other), 2)
            if row:
                self.assertEqual(share(row, (0, length), (0, 0)), (0, 1))
                self.assertEqual(share(row, (1, 1), (0, length)), (0, 1))
                self.assertEqual(in_any(row, (1, 1), (0, length)), len(set(row)))

    def test_alike(self):
        for row in long_rows():
            for window in some_windows(row)[::41]:
                unlike = len(set(row[window[0]:window[1]]))
                self.assertEqual((in_both(row, window, window), in_any(row, window, window)), (unlike, unlike))
                self.assertEqual(share(row, window, window), (1, 1))

    def test_every_two_windows_of_short_rows(self):
        for row in short_rows():
            for one, other in itertools.product(all_windows(row), repeat=2):
                self.assert_two(row, one, other)

    def test_longer_rows(self):
        for row in long_rows():
            for one, other in some_pairs(row)[::3 if len(row) <= 40 else 7]:
                self.assert_two(row, one, other)


class MostAlike(Case):
    def assert_most_alike(self, row, width):
        told = most_alike(row, width)
        self.assertEqual(told, most_alike_by_trying(row, width), (row, width))
        if told is not None:
            self.assertIs(type(told), tuple)
            self.assertEqual(len(told), 3)
            self.assert_whole(told[0], told[1])
            self.assert_tuple_of_whole(told[2], 2)

    def test_written_out(self):
        row = [3, -1, 3, 5, -1, 8, 9]
        told = [most_alike(row, width) for width in range(1, 5)]
        self.assertEqual(told, [(0, 2, (1, 1)), (0, 2, (1, 3)), (0, 3, (1, 4)), None])

    def test_no_two(self):
        for row in long_rows():
            for width in {len(row) // 2 + 1, len(row), len(row) + 1, 300, GREAT}:
                if width >= 1 and 2 * width > len(row):
                    self.assertIsNone(most_alike(row, width))
        self.assertIsNone(most_alike([], 1))
        self.assertIsNone(most_alike([4], 1))
        self.assertEqual(most_alike([4, 4], 1), (0, 1, (1, 1)))
        self.assertEqual(most_alike([4, 6], 1), (0, 1, (0, 1)))

    def test_no_place_is_shared(self):
        # Windows that lie over one another would be more alike than any two that do not.
        row = [1, 2, 3, 4, 5, 6]
        self.assertEqual(most_alike(row, 2), (0, 2, (0, 1)))
        self.assertEqual(most_alike(row, 3), (0, 3, (0, 1)))
        self.assertEqual(most_alike([1, 2, 3, 4, 5, 1], 2), (0, 4, (1, 3)))
        self.assertEqual(most_alike([9, 9, 8, 8], 2), (0, 2, (0, 1)))

    def test_the_least_first_then_the_least_second(self):
        self.assertEqual(most_alike([1, 2, 3, 3, 2, 1, 2], 1), (0, 5, (1, 1)))
        self.assertEqual(most_alike([1, 2, 2, 1, 2, 1], 1), (0, 3, (1, 1)))
        self.assertEqual(most_alike([5, 1, 2, 6, 2, 1, 7, 1, 2], 2), (1, 4, (1, 1)))
        self.assertEqual(most_alike([1, 2, 6, 3, 4, 7, 4, 3, 8, 2, 1], 2), (0, 9, (1, 1)))

    def test_greater_by_the_fraction_not_by_its_parts(self):
        # Three of five come first, but one of one is more; two of five are less than one of two.
        row = [1, 2, 3, 4, 1, 2, 3, 5, 9, 9, 9, 9, 9, 9, 9, 9]
        self.assertEqual(most_alike(row, 4), (8, 12, (1, 1)))
        self.assertEqual(most_alike(row[:8], 4), (0, 4, (3, 5)))
        row = [7, 7, 7, 1, 2, 7, 3, 6, 4, 1, 7]
        self.assertEqual(most_alike(row, 4), (0, 7, (1, 2)))
        self.assertEqual(share(row, (1, 5), (7, 11)), (2, 5))

    def test_every_short_row(self):
        for row in list(short_rows(5)) + [random_row(seed, 9, list(range(2 + seed % 6))) for seed in range(60)]:
            for width in range(1, len(row) + 2):
                self.assert_most_alike(row, width)

    def test_small_rows_and_every_width(self):
        for row in long_rows():
            if 12 <= len(row) <= 40:
                for width in range(1, len(row) // 2 + 2):
                    self.assert_most_alike(row, width)

    def test_rows_of_up_to_120(self):
        for length, unlike in ((60, 5), (119, 30), (120, 2), (120, 60), (120, 300)):
            row = random_row(length + unlike, length, list(range(-unlike // 2, unlike // 2 + 1)))
            for width in (1, 2, 3, 7, 20, 39, length // 2 - 1, length // 2, length // 2 + 1):
                self.assert_most_alike(row, width)

    def test_great_rows(self):
        for row in great_rows():
            for width in (110, 131, 149, 150, 151, 300):
                self.assert_most_alike(row, width)
        for length in (121, 220, 221, 250):
            row = random_row(length, length, list(range(100)))
            for width in (110, 111, length // 2, length):
                self.assert_most_alike(row, width)

    def test_rows_told_by_hand(self):
        for length in (12, 120, 300):
            for width in (110, 150) if length == 300 else (1, 5, length // 2):
                self.assertEqual(most_alike(all_unlike(length), width), (0, width, (0, 1)))
                self.assertEqual(most_alike(all_alike(length), width), (0, width, (1, 1)))
        self.assertEqual(most_alike(round_and_round(7, 120), 3), (0, 7, (1, 1)))
        self.assertEqual(most_alike(round_and_round(140, 300), 120), (0, 140, (1, 1)))
        self.assertEqual(most_alike(each_so_often(7, 120), 2), (0, 2, (1, 1)))
        self.assertEqual(most_alike(each_so_often(7, 120), 4), (0, 4, (1, 2)))


class AskersOwn(Case):
    def test_of_every_ask(self):
        for row in list(short_rows(3)) + long_rows():
            for one, other in some_pairs(row)[::97]:
                for ask in (in_both, in_any, share):
                    self.assert_askers_own(ask, row, one, other)
            for width in (1, 2) if len(row) <= 40 else (110, 150):
                self.assert_askers_own(most_alike, row, width)


if __name__ == "__main__":
    unittest.main()
