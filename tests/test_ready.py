"""Points 1, 3 and 7 to 10: a row made ready and asked of its windows."""

import random
import unittest

from samples import (Case, GREAT, all_windows, firsts_by_looking, great_rows, long_rows, no_places, random_row,
                     short_rows, small_rows, some_windows, unlike_by_looking)
from unlikerow.ready import Ready


def end_by_trying(row, first, many):
    behinds = range(first, len(row) + 1)
    return min([behind for behind in behinds if unlike_by_looking(row, first, behind) == many], default=None)


def begin_by_trying(row, behind, many):
    firsts = range(behind + 1)
    return max([first for first in firsts if unlike_by_looking(row, first, behind) == many], default=None)


class WindowCase(Case):
    def assert_no_windows(self, name_of_ask):
        """What point 8 refuses, and that good windows are told behind it as ahead of it."""
        for row in ([], [5], [2, 7, 2, 2], random_row(7, 300, list(range(9)))):
            length = len(row)
            ask = getattr(Ready(row), name_of_ask)
            windows = some_windows(row)[-20:] + [(0, 0), (0, length), (length, length)]
            ahead = [ask(first, behind) for first, behind in windows]
            for name, thing in no_places(length):
                with self.subTest(name=name, length=length):
                    for place in (0, length):
                        self.assert_no_window(ask, thing, place)
                        self.assert_no_window(ask, place, thing)
                    self.assert_no_window(ask, thing, thing)
                    self.assert_no_window(ask, thing, None)
                    self.assert_no_window(ask, -1, thing)
            for first in range(length + 1):
                for behind in range(max(0, first - 3), first):
                    self.assert_no_window(ask, first, behind)
            self.assertEqual([ask(first, behind) for first, behind in windows], ahead)

    def assert_truths_refused(self, ask):
        for first, behind in ((False, 0), (False, 1), (False, True), (0, True), (0, False), (True, 1), (True, True),
                              (True, 2), (1, True), (False, False)):
            self.assert_no_window(ask, first, behind)


class Unlike(WindowCase):
    def test_written_out(self):
        ready = Ready([3, -1, 3, 3, 5, -1])
        told = [ready.unlike(0, behind) for behind in range(7)]
        self.assertEqual(told, [0, 1, 2, 2, 2, 3, 3])
        self.assertEqual(ready.unlike(2, 4), 1)
        self.assertEqual(ready.unlike(3, 6), 3)
        self.assertEqual(Ready([]).unlike(0, 0), 0)

    def test_every_window(self):
        for row in small_rows():
            ready = Ready(row)
            for first, behind in all_windows(row):
                told = ready.unlike(first, behind)
                with self.subTest(row=row, first=first, behind=behind):
                    self.assertEqual(told, unlike_by_looking(row, first, behind))
                    self.assertIs(type(told), int)

    def test_great_rows(self):
        for row in great_rows():
            ready = Ready(row)
            for first, behind in some_windows(row):
                told = ready.unlike(first, behind)
                self.assertEqual(told, unlike_by_looking(row, first, behind), (first, behind))
                self.assertIs(type(told), int)

    def test_any_order_and_asked_again(self):
        row = random_row(11, 40, list(range(8)))
        ready = Ready(row)
        for seed in range(4):
            windows = all_windows(row)
            random.Random(seed).shuffle(windows)
            for first, behind in windows:
                self.assertEqual(ready.unlike(first, behind), unlike_by_looking(row, first, behind), (first, behind))
                self.assertEqual(ready.unlike(first, behind), unlike_by_looking(row, first, behind), (first, behind))

    def test_no_window(self):
        self.assert_no_windows("unlike")

    def test_truths_are_no_places(self):
        self.assert_truths_refused(Ready([4, 4, 6]).unlike)


class Firsts(WindowCase):
    def test_written_out(self):
        ready = Ready([3, -1, 3, 3, 5, -1])
        self.assertEqual(ready.firsts(0, 6), [0, 1, 4])
        self.assertEqual(ready.firsts(2, 6), [2, 4, 5])
        self.assertEqual(ready.firsts(3, 3), [])
        self.assertEqual(Ready([]).firsts(0, 0), [])

    def assert_firsts(self, row, windows):
        ready = Ready(row)
        for first, behind in windows:
            told = ready.firsts(first, behind)
            self.assertEqual(told, firsts_by_looking(row, first, behind), (first, behind))
            self.assertIs(type(told), list)
            self.assertTrue(all(type(place) is int for place in told))
            self.assertEqual(told, sorted(told))
            self.assertEqual(len(told), ready.unlike(first, behind))

    def test_every_window(self):
        for row in small_rows():
            with self.subTest(row=row):
                self.assert_firsts(row, all_windows(row))

    def test_great_rows(self):
        for row in great_rows():
            with self.subTest(row=row):
                self.assert_firsts(row, some_windows(row)[::5])

    def test_any_order_and_asked_again(self):
        row = random_row(12, 40, list(range(8)))
        windows = all_windows(row) * 2
        random.Random(5).shuffle(windows)
        self.assert_firsts(row, windows)

    def test_no_window(self):
        self.assert_no_windows("firsts")

    def test_truths_are_no_places(self):
        self.assert_truths_refused(Ready([4, 4, 6]).firsts)


class Ends(Case):
    def test_written_out(self):
        ready = Ready([3, -1, 3, 3, 5, -1])
        self.assertEqual([ready.end_of(0, many) for many in range(5)], [0, 1, 2, 5, None])
        self.assertEqual([ready.end_of(2, many) for many in range(5)], [2, 3, 5, 6, None])
        self.assertEqual([ready.begin_of(6, many) for many in range(5)], [6, 5, 4, 3, None])
        self.assertEqual([ready.begin_of(4, many) for many in range(4)], [4, 3, 1, None])

    def test_against_every_window(self):
        for row in small_rows():
            ready = Ready(row)
            for place in range(len(row) + 1):
                for many in list(range(len(set(row)) + 2)) + [len(row) + 1, 300, GREAT]:
                    end, begin = ready.end_of(place, many), ready.begin_of(place, many)
                    with self.subTest(row=row, place=place, many=many):
                        self.assertEqual(end, end_by_trying(row, place, many))
                        self.assertEqual(begin, begin_by_trying(row, place, many))
                        self.assertIn(type(end), (int, type(None)))
                        self.assertIn(type(begin), (int, type(None)))

    def test_great_rows(self):
        for row in great_rows():
            ready = Ready(row)
            for place in (0, 1, 77, 150, 299, 300):
                for many in (0, 1, 2, 3, 4, 39, 40, 41, 150, 223, 299, 300, 301):
                    with self.subTest(place=place, many=many):
                        self.assertEqual(ready.end_of(place, many), end_by_trying(row, place, many))
                        self.assertEqual(ready.begin_of(place, many), begin_by_trying(row, place, many))

    def test_none_is_the_place_itself(self):
        for row in ([], [1], [1, 1, 2], list(range(300))):
            for place in range(len(row) + 1):
                self.assertEqual(Ready(row).end_of(place, 0), place)
                self.assertEqual(Ready(row).begin_of(place, 0), place)

    def test_far_more_than_the_row_has(self):
        for row in ([], [1], [1, 1, 2], list(range(300))):
            for many in (len(row) + 1, 2 * len(row) + 1, GREAT, 10 ** 60, 10 ** 5000):
                for place in range(len(row) + 1):
                    self.assertIsNone(Ready(row).end_of(place, many))
                    self.assertIsNone(Ready(row).begin_of(place, many))

    def test_no_place(self):
        for row in ([], [5], [2, 7, 2, 2], random_row(13, 300, list(range(9)))):
            ready = Ready(row)
            length = len(row)
            ahead = [(ready.end_of(place, 1), ready.begin_of(place, 1)) for place in range(length + 1)]
            for name, thing in no_places(length):
                for many in (0, 1, 2, 400, GREAT):
                    with self.subTest(name=name, length=length, many=many):
                        self.assert_no_window(ready.end_of, thing, many)
                        self.assert_no_window(ready.begin_of, thing, many)
            behind = [(ready.end_of(place, 1), ready.begin_of(place, 1)) for place in range(length + 1)]
            self.assertEqual(behind, ahead)


class AskersOwn(Case):
    def answers(self, ready, row):
        windows, places = some_windows(row)[::9], range(len(row) + 1)
        return ([(ready.unlike(first, behind), ready.firsts(first, behind)) for first, behind in windows],
                [(ready.end_of(place, many), ready.begin_of(place, many)) for place in places for many in range(4)])

    def test_the_row_stays(self):
        for row in list(short_rows(3)) + long_rows():
            kept = list(row)
            self.answers(Ready(row), row)
            self.assertEqual(row, kept)

    def test_what_becomes_of_the_row_changes_nothing(self):
        for row in list(short_rows(3)) + long_rows():
            kept = list(row)
            right = self.answers(Ready(list(row)), kept)
            ready = Ready(row)
            row.reverse()
            row.append(4)
            row[0] = 10 ** 6
            self.assertEqual(self.answers(ready, kept), right)
            row.clear()
            self.assertEqual(self.answers(ready, kept), right)

    def test_a_told_list_may_be_spoilt(self):
        for row in ([], [1], [1, 2, 1, 3, 3], random_row(14, 300, list(range(250)))):
            ready = Ready(row)
            right = self.answers(ready, row)
            for first, behind in some_windows(row)[::9]:
                told = ready.firsts(first, behind)
                told.append(-7)
                told[0] = "spoilt"
                self.assertEqual(ready.firsts(first, behind), firsts_by_looking(row, first, behind))
            self.assertEqual(self.answers(ready, row), right)

    def test_two_rows_made_ready_stay_apart(self):
        one, other = [1, 1, 1, 1], [1, 2, 3, 4]
        first_ready, second_ready = Ready(one), Ready(other)
        self.assertEqual((first_ready.unlike(0, 4), second_ready.unlike(0, 4)), (1, 4))
        self.assertEqual((first_ready.firsts(1, 4), second_ready.firsts(1, 4)), ([1], [1, 2, 3]))


if __name__ == "__main__":
    unittest.main()
