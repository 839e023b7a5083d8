"""Points 1 and 12 to 14: the windows of a width, the most and the least of them, the sums."""

import unittest

from samples import (Case, GREAT, all_alike, all_unlike, each_so_often, great_rows, long_rows, no_places, random_row,
                     round_and_round, short_rows, small_rows, unlike_by_looking)
from unlikerow.widths import least_of, most_of, of_width, sums


def of_width_by_looking(row, width):
    return [unlike_by_looking(row, first, first + width) for first in range(len(row) - width + 1)]


def widths_of(row):
    return range(len(row) + 1)


def some_widths(row):
    length = len(row)
    widths = {0, 1, 2, 3, length // 2, length - 2, length - 1, length}
    return sorted(width for width in widths if 0 <= width <= length)


class WidthCase(Case):
    def assert_no_widths(self, ask):
        """What point 12 refuses, and that good widths are told behind it as ahead of it."""
        for row in ([], [5], [5, 5], [2, 7, 2, 2], random_row(31, 300, list(range(9)))):
            kept = list(row)
            ahead = [ask(row, width) for width in some_widths(row)]
            for name, thing in no_places(len(row)):
                with self.subTest(name=name, length=len(row)):
                    self.assert_no_window(ask, row, thing)
            self.assertEqual(row, kept)
            self.assertEqual([ask(row, width) for width in some_widths(row)], ahead)


class OfWidth(WidthCase):
    def test_written_out(self):
        row = [3, -1, 3, 3, 5, -1]
        told = [[0] * 7, [1] * 6, [2, 2, 1, 2, 2], [2, 2, 2, 3], [2, 3, 3], [3, 3], [3]]
        self.assertEqual([of_width(row, width) for width in range(7)], told)

    def test_row_of_none_and_of_one(self):
        self.assertEqual(of_width([], 0), [0])
        self.assertEqual(of_width([GREAT], 0), [0, 0])
        self.assertEqual(of_width([GREAT], 1), [1])

    def test_against_counting_each_window(self):
        for row in small_rows():
            for width in widths_of(row):
                with self.subTest(row=row, width=width):
                    self.assertEqual(of_width(row, width), of_width_by_looking(row, width))
                    self.assert_list_of_whole(of_width(row, width))

    def test_great_rows(self):
        for row in great_rows():
            for width in widths_of(row):
                told = of_width(row, width)
                self.assertEqual(told, of_width_by_looking(row, width), width)
                self.assert_list_of_whole(told)

    def test_no_width(self):
        self.assert_no_widths(of_width)


class MostAndLeast(WidthCase):
    def test_written_out(self):
        row = [3, -1, 3, 3, 5, -1]
        self.assertEqual([most_of(row, width) for width in range(7)],
                         [(0, 0), (1, 0), (2, 0), (3, 3), (3, 1), (3, 0), (3, 0)])
        self.assertEqual([least_of(row, width) for width in range(7)],
                         [(0, 0), (1, 0), (1, 2), (2, 0), (2, 0), (3, 0), (3, 0)])

    def test_width_nought(self):
        for row in [[], [GREAT]] + great_rows():
            self.assertEqual(most_of(row, 0), (0, 0))
            self.assertEqual(least_of(row, 0), (0, 0))
            self.assert_tuple_of_whole(most_of(row, 0), 2)
            self.assert_tuple_of_whole(least_of(row, 0), 2)

    def test_the_least_first_of_several(self):
        row = [1, 1, 2, 3, 3, 2, 1, 1]
        self.assertEqual(of_width(row, 3), [2, 3, 2, 2, 3, 2])
        self.assertEqual(most_of(row, 3), (3, 1))
        self.assertEqual(least_of(row, 3), (2, 0))
        self.assertEqual(least_of(row, 2), (1, 0))
        self.assertEqual(least_of(row[1:], 2), (1, 2))

    def assert_most_and_least(self, row, widths):
        for width in widths:
            numbered = [(number, first) for first, number in enumerate(of_width_by_looking(row, width))]
            most, least = most_of(row, width), least_of(row, width)
            self.assertEqual(most, min(numbered, key=lambda two: (-two[0], two[1])))
            self.assertEqual(least, min(numbered))
            self.assert_tuple_of_whole(most, 2)
            self.assert_tuple_of_whole(least, 2)

    def test_against_counting_each_window(self):
        for row in small_rows():
            with self.subTest(row=row):
                self.assert_most_and_least(row, widths_of(row))

    def test_great_rows(self):
        for row in great_rows():
            with self.subTest(row=row):
                self.assert_most_and_least(row, sorted(set(some_widths(row)) | set(range(0, 301, 13))))

    def test_no_width(self):
        self.assert_no_widths(most_of)
        self.assert_no_widths(least_of)


class Sums(WidthCase):
    def test_written_out(self):
        self.assertEqual(sums([]), [0])
        self.assertEqual(sums([-GREAT]), [0, 1])
        self.assertEqual(sums([3, -1, 3, 3, 5, -1]), [0, 6, 9, 9, 8, 6, 3])

    def test_against_counting_each_window(self):
        for row in small_rows() + great_rows():
            told = sums(row)
            with self.subTest(row=row):
                self.assertEqual(len(told), len(row) + 1)
                self.assertEqual(told, [sum(of_width_by_looking(row, width)) for width in widths_of(row)])
                self.assert_list_of_whole(told)


class RowsToldByHand(WidthCase):
    LENGTHS = (1, 2, 40, 300)

    def assert_widths(self, row, number_of):
        """number_of(first, width) is how many unlike numbers that window has by hand."""
        for width in some_widths(row):
            numbers = [number_of(first, width) for first in range(len(row) - width + 1)]
            self.assertEqual(of_width(row, width), numbers)
            self.assertEqual(most_of(row, width), (max(numbers), numbers.index(max(numbers))))
            self.assertEqual(least_of(row, width), (min(numbers), numbers.index(min(numbers))))
            self.assertEqual(sums(row)[width], sum(numbers))

    def test_all_unlike(self):
        for length in self.LENGTHS:
            self.assert_widths(all_unlike(length), lambda first, width: width)
        self.assertEqual(sums(all_unlike(5)), [0, 5, 8, 9, 8, 5])

    def test_all_alike(self):
        for length in self.LENGTHS:
            self.assert_widths(all_alike(length), lambda first, width: min(width, 1))
        self.assertEqual(sums(all_alike(5)), [0, 5, 4, 3, 2, 1])

    def test_round_and_round(self):
        for length in self.LENGTHS:
            for unlike in (1, 2, 3, 7, 39, 40, 250):
                self.assert_widths(round_and_round(unlike, length), lambda first, width: min(width, unlike))

    def test_each_so_often(self):
        for length in self.LENGTHS:
            for times in (1, 2, 3, 7, 39, 250):
                def by_hand(first, width):
                    return (first + width - 1) // times - first // times + 1 if width else 0

                self.assert_widths(each_so_often(times, length), by_hand)


class AskersOwn(WidthCase):
    def test_of_every_ask(self):
        for row in list(short_rows(3)) + long_rows():
            self.assert_askers_own(sums, row)
            for width in some_widths(row):
                self.assert_askers_own(of_width, row, width)
                self.assert_askers_own(most_of, row, width)
                self.assert_askers_own(least_of, row, width)


if __name__ == "__main__":
    unittest.main()
