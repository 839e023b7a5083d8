"""Points 1 and 15 to 18: windows with just so many unlike numbers, or with at most so many."""

import unittest

from samples import (Case, GREAT, all_alike, all_unlike, each_so_often, great_rows, long_rows, random_row,
                     round_and_round, short_rows, shortest_by_trying, small_rows)
from unlikerow.somany import counts, how_many, longest, longest_within, shortest, stretches


def windows_by_number(row):
    """All windows of width 1 or more, firsts rising and then behinds, by how many unlike numbers they have."""
    told = {many: [] for many in range(len(set(row)) + 1)}
    for first in range(len(row)):
        seen = set()
        for behind in range(first + 1, len(row) + 1):
            seen.add(row[behind - 1])
            told[len(seen)].append((first, behind))
    return told


def stretches_by_trying(windows):
    behinds = {}
    for first, behind in windows:
        behinds.setdefault(first, []).append(behind)
    return [(first, min(behinds[first]), max(behinds[first])) for first in sorted(behinds)]


def longest_by_trying(windows, none=None):
    return min(windows, key=lambda window: (window[0] - window[1], window[0]), default=none)


def some_manys(row):
    """From 0 on: few, about the greatest there is, about the row's length, and far more."""
    unlike, length = len(set(row)), len(row)
    near = {0, 1, 2, 3, unlike // 2, max(0, unlike - 1), unlike, unlike + 1, unlike + 2, length, length + 1}
    return sorted(near) + [GREAT, 10 ** 60, 10 ** 5000]


class Stretches(Case):
    def test_written_out(self):
        row = [3, -1, 3, 3, 5, -1]
        self.assertEqual(stretches(row, 0), [])
        self.assertEqual(stretches(row, 1), [(0, 1, 1), (1, 2, 2), (2, 3, 4), (3, 4, 4), (4, 5, 5), (5, 6, 6)])
        self.assertEqual(stretches(row, 2), [(0, 2, 4), (1, 3, 4), (2, 5, 5), (3, 5, 5), (4, 6, 6)])
        self.assertEqual(stretches(row, 3), [(0, 5, 6), (1, 5, 6), (2, 6, 6), (3, 6, 6)])
        self.assertEqual(stretches(row, 4), [])

    def test_row_of_none_and_of_one(self):
        self.assertEqual([stretches([], many) for many in (0, 1, 2, GREAT)], [[]] * 4)
        self.assertEqual([stretches([GREAT], many) for many in (0, 1, 2, GREAT)], [[], [(0, 1, 1)], [], []])

    def test_against_trying_every_window(self):
        for row in small_rows() + great_rows():
            windows = windows_by_number(row)
            for many in some_manys(row):
                told = stretches(row, many)
                self.assertEqual(told, stretches_by_trying(windows.get(many, [])))
                self.assert_list_of_tuples(told, 3)

    def test_all_behinds_between_and_no_others(self):
        for row in small_rows():
            for many, windows in windows_by_number(row).items():
                told = stretches(row, many)
                spread = [(first, behind) for first, least, greatest in told for behind in range(least, greatest + 1)]
                self.assertEqual(spread, windows)


class Counts(Case):
    def test_written_out(self):
        row = [3, -1, 3, 3, 5, -1]
        self.assertEqual(counts(row), [0, 7, 8, 6])
        self.assertEqual([how_many(row, many) for many in range(6)], [0, 7, 8, 6, 0, 0])

    def test_row_of_none_and_of_one(self):
        self.assertEqual(counts([]), [0])
        self.assertEqual(counts([-GREAT]), [0, 1])
        self.assertEqual([how_many([], many) for many in (0, 1, 2, GREAT)], [0] * 4)
        self.assertEqual([how_many([-GREAT], many) for many in (0, 1, 2, GREAT)], [0, 1, 0, 0])

    def test_against_trying_every_window(self):
        for row in small_rows() + great_rows():
            windows = windows_by_number(row)
            told = counts(row)
            self.assertEqual(told, [len(windows[many]) for many in range(len(set(row)) + 1)])
            self.assert_list_of_whole(told)
            self.assertEqual(sum(told), len(row) * (len(row) + 1) // 2)
            for many in some_manys(row):
                self.assertEqual(how_many(row, many), len(windows.get(many, [])))
                self.assert_whole(how_many(row, many))


class Longest(Case):
    def test_written_out(self):
        row = [3, -1, 3, 3, 5, -1]
        self.assertEqual([longest(row, many) for many in range(5)], [None, (2, 4), (0, 4), (0, 6), None])
        self.assertEqual([shortest(row, many) for many in range(5)], [None, (0, 1), (0, 2), (3, 6), None])

    def test_row_of_none_and_of_one(self):
        for ask in (longest, shortest):
            self.assertEqual([ask([], many) for many in (0, 1, 2, GREAT)], [None] * 4)
            self.assertEqual([ask([7], many) for many in (0, 1, 2, GREAT)], [None, (0, 1), None, None])

    def test_the_least_first_of_several(self):
        row = [1, 2, 2, 3, 3, 4, 5, 5]
        self.assertEqual(longest(row, 1), (1, 3))
        self.assertEqual(longest(row, 2), (1, 5))
        self.assertEqual(shortest(row, 2), (0, 2))
        self.assertEqual(shortest(row, 3), (4, 7))
        self.assertEqual(shortest(row[1:], 2), (1, 3))

    def test_against_trying_every_window(self):
        for row in small_rows() + great_rows():
            windows = windows_by_number(row)
            for many in some_manys(row):
                far, near = longest(row, many), shortest(row, many)
                self.assertEqual(far, longest_by_trying(windows.get(many, [])))
                self.assertEqual(near, shortest_by_trying(windows.get(many, [])))
                self.assert_window_or_none(far)
                self.assert_window_or_none(near)


class LongestWithin(Case):
    def test_written_out(self):
        row = [3, -1, 3, 3, 5, -1]
        self.assertEqual([longest_within(row, many) for many in range(5)], [(0, 0), (2, 4), (0, 4), (0, 6), (0, 6)])

    def test_none_of_width_one(self):
        for row in long_rows():
            self.assertEqual(longest_within(row, 0), (0, 0))
            self.assert_tuple_of_whole(longest_within(row, 0), 2)
        for many in (0, 1, 2, 300, GREAT, 10 ** 5000):
            self.assertEqual(longest_within([], many), (0, 0))
            self.assert_tuple_of_whole(longest_within([], many), 2)

    def test_more_than_the_row_has(self):
        for row in long_rows():
            for many in (max(1, len(set(row))), len(set(row)) + 1, 301, GREAT, 10 ** 5000):
                self.assertEqual(longest_within(row, many), (0, len(row)))

    def test_the_least_first_of_several(self):
        self.assertEqual(longest_within([1, 2, 2, 3, 3, 4], 1), (1, 3))
        self.assertEqual(longest_within([1, 2, 3, 3, 4, 4, 3, 5, 5, 4, 4, 5], 2), (2, 7))
        self.assertEqual(longest_within([1, 2, 3, 4], 3), (0, 3))

    def test_against_trying_every_window(self):
        for row in small_rows() + great_rows():
            windows = windows_by_number(row)
            for many in some_manys(row):
                within = [longest_by_trying(windows[number], (0, 0)) for number in windows if number <= many]
                told = longest_within(row, many)
                self.assertEqual(told, longest_by_trying(within))
                self.assert_tuple_of_whole(told, 2)


class RowsToldByHand(Case):
    def assert_none(self, row, many):
        self.assertEqual(stretches(row, many), [])
        self.assertEqual(how_many(row, many), 0)
        self.assertIsNone(longest(row, many))
        self.assertIsNone(shortest(row, many))

    def test_all_unlike(self):
        for length in (1, 2, 40, 300):
            row = all_unlike(length)
            self.assertEqual(counts(row), [0] + list(range(length, 0, -1)))
            for many in {1, 2, length // 2, length - 1, length} & set(range(1, length + 1)):
                firsts = range(length - many + 1)
                self.assertEqual(stretches(row, many), [(first, first + many, first + many) for first in firsts])
                self.assertEqual(how_many(row, many), length - many + 1)
                self.assertEqual([ask(row, many) for ask in (longest, shortest, longest_within)], [(0, many)] * 3)
            self.assert_none(row, 0)
            self.assert_none(row, length + 1)

    def test_all_alike(self):
        for length in (1, 2, 40, 300):
            row = all_alike(length)
            self.assertEqual(counts(row), [0, length * (length + 1) // 2])
            self.assertEqual(stretches(row, 1), [(first, first + 1, length) for first in range(length)])
            self.assertEqual((longest(row, 1), shortest(row, 1)), ((0, length), (0, 1)))
            self.assertEqual(longest_within(row, 1), (0, length))
            self.assert_none(row, 0)
            self.assert_none(row, 2)

    def test_round_and_round(self):
        for unlike, length in ((2, 2), (2, 3), (3, 40), (7, 300), (250, 300)):
            row = round_and_round(unlike, length)
            for many in {1, unlike // 2, unlike - 1} - {0}:
                firsts = range(length - many + 1)
                self.assertEqual(stretches(row, many), [(first, first + many, first + many) for first in firsts])
                self.assertEqual([ask(row, many) for ask in (longest, shortest, longest_within)], [(0, many)] * 3)
            firsts = range(length - unlike + 1)
            self.assertEqual(stretches(row, unlike), [(first, first + unlike, length) for first in firsts])
            self.assertEqual((longest(row, unlike), shortest(row, unlike)), ((0, length), (0, unlike)))
            self.assertEqual(longest_within(row, unlike), (0, length))
            rest = length - unlike + 1
            self.assertEqual(counts(row), [0] + list(range(length, rest, -1)) + [rest * (rest + 1) // 2])
            self.assert_none(row, unlike + 1)

    def test_each_so_often(self):
        for times, unlike in ((2, 1), (2, 2), (3, 5), (7, 6), (60, 5), (2, 150)):
            length = times * unlike
            row = each_so_often(times, length)
            for many in {1, 2, unlike - 1, unlike} & set(range(1, unlike + 1)):
                ends = [(first, (first // times + many) * times) for first in range(length)]
                right = [(first, max(first + 1, end - times + 1), end) for first, end in ends if end <= length]
                self.assertEqual(stretches(row, many), right)
                self.assertEqual(longest(row, many), (0, many * times))
                self.assertEqual(longest_within(row, many), (0, many * times))
                narrow = (0, 1) if many == 1 else (times - 1, times * (many - 1) + 1)
                self.assertEqual(shortest(row, many), narrow)
            ones = unlike * times * (times + 1) // 2
            several = [(unlike - many + 1) * times * times for many in range(2, unlike + 1)]
            self.assertEqual(counts(row), [0, ones] + several)
            self.assert_none(row, unlike + 1)


class AskersOwn(Case):
    def test_of_every_ask(self):
        for row in list(short_rows(3)) + long_rows():
            self.assert_askers_own(counts, row)
            for many in some_manys(row)[:5] + [len(set(row)), GREAT]:
                for ask in (stretches, how_many, longest, shortest, longest_within):
                    self.assert_askers_own(ask, row, many)

    def test_told_of_one_row_stays_apart_from_another(self):
        one, other = random_row(41, 40, [1, 2]), random_row(42, 40, [1, 2, 3])
        told = [(ask(one, 2), ask(other, 2)) for ask in (stretches, how_many, longest, shortest, longest_within)]
        again = [(ask(one, 2), ask(other, 2)) for ask in (stretches, how_many, longest, shortest, longest_within)]
        self.assertEqual(told, again)


if __name__ == "__main__":
    unittest.main()
