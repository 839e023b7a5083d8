"""Points 1, 25 and 26: a live row, changed, asked, and the changes taken back."""

import itertools
import random
import unittest

from samples import (Beside, Case, GREAT, NUMBERS, all_windows, firsts_by_looking, long_rows, no_places, random_row,
                     random_step, short_rows, some_windows, unlike_by_looking)
from unlikerow.errors import NoPlace, NoWindow
from unlikerow.live import Live
from unlikerow.ready import Ready


def step_of(live, do, place, number):
    if do == "undo":
        return live.undo()
    if do == "take":
        return live.take(place)
    return getattr(live, do)(place, number)


def steps_for(row):
    """Every change of a short row at every place."""
    for place in range(len(row) + 1):
        for number in (0, 1, 7):
            yield ("put", place, number)
            if place < len(row):
                yield ("change", place, number)
        if place < len(row):
            yield ("take", place, None)


class LiveCase(Case):
    def assert_answers(self, live, row, windows):
        told = live.row()
        self.assertEqual(told, row)
        self.assert_list_of_whole(told)
        for first, behind in windows:
            self.assertEqual(live.unlike(first, behind), unlike_by_looking(row, first, behind), (row, first, behind))
            self.assertEqual(live.firsts(first, behind), firsts_by_looking(row, first, behind), (row, first, behind))

    def assert_as_a_new_one(self, live, row, windows):
        ready = Ready(row)
        for first, behind in windows:
            unlike, firsts = live.unlike(first, behind), live.firsts(first, behind)
            self.assertEqual((unlike, firsts), (ready.unlike(first, behind), ready.firsts(first, behind)))
            self.assert_whole(unlike)
            self.assert_list_of_whole(firsts)

    def assert_told(self, told, right):
        self.assertEqual(told, right)
        self.assertIs(type(told), type(right))

    def assert_step(self, live, beside, step):
        self.assert_told(step_of(live, *step), beside.step(*step))
        self.assertEqual(live.row(), beside.now)

    def assert_all_taken_back(self, live, beside):
        while beside.earlier:
            self.assert_step(live, beside, ("undo", None, None))
        for time in range(3):
            self.assertIs(live.undo(), False)
            self.assertEqual(live.row(), beside.now)


class Changes(LiveCase):
    def test_written_out(self):
        live = Live([3, -1, 3])
        self.assertIsNone(live.change(1, 3))
        self.assertEqual((live.row(), live.unlike(0, 3), live.firsts(0, 3)), ([3, 3, 3], 1, [0]))
        self.assertIsNone(live.put(3, 5))
        self.assertEqual((live.row(), live.unlike(0, 4), live.firsts(1, 4)), ([3, 3, 3, 5], 2, [1, 3]))
        self.assertIsNone(live.put(0, 5))
        self.assertEqual((live.row(), live.unlike(1, 5), live.firsts(0, 5)), ([5, 3, 3, 3, 5], 2, [0, 1]))
        self.assertEqual(live.take(1), 3)
        self.assertEqual(live.row(), [5, 3, 3, 5])
        self.assertIs(live.undo(), True)
        self.assertEqual(live.row(), [5, 3, 3, 3, 5])
        self.assertIs(live.undo(), True)
        self.assertEqual(live.row(), [3, 3, 3, 5])
        self.assertEqual(live.take(3), 5)
        self.assertEqual([live.undo() for time in range(4)], [True, True, True, False])
        self.assertEqual(live.row(), [3, -1, 3])

    def test_a_row_of_none(self):
        live = Live([])
        self.assertEqual((live.row(), live.unlike(0, 0), live.firsts(0, 0), live.undo()), ([], 0, [], False))
        self.assertIsNone(live.put(0, GREAT))
        self.assertEqual((live.row(), live.unlike(0, 1), live.firsts(0, 1)), ([GREAT], 1, [0]))
        self.assertEqual(live.take(0), GREAT)
        self.assertEqual((live.row(), live.unlike(0, 0)), ([], 0))
        self.assertIs(live.undo(), True)
        self.assertEqual(live.row(), [GREAT])
        self.assertIs(live.undo(), True)
        self.assertEqual((live.row(), live.undo()), ([], False))

    def test_every_change_of_short_rows(self):
        for row in short_rows(4):
            for step in steps_for(row):
                live, beside = Live(row), Beside(row)
                self.assert_step(live, beside, step)
                self.assert_answers(live, beside.now, all_windows(beside.now))
                self.assert_step(live, beside, ("undo", None, None))
                self.assert_answers(live, row, all_windows(row))
                self.assertIs(live.undo(), False)

    def test_two_changes_and_undo_between(self):
        for row in short_rows(2, 2):
            for one in steps_for(row):
                once = Beside(row)
                once.step(*one)
                for other in itertools.chain(steps_for(once.now), [("undo", None, None)]):
                    live, beside = Live(row), Beside(row)
                    for step in (one, other, ("undo", None, None), ("put", 0, 9)):
                        self.assert_step(live, beside, step)
                    self.assert_answers(live, beside.now, all_windows(beside.now))
                    self.assert_all_taken_back(live, beside)
                    self.assertEqual(live.row(), row)

    def test_a_change_by_which_the_number_stays(self):
        live = Live([4, 4, 6])
        live.change(0, 5)
        live.change(1, 4)
        live.change(1, 4)
        self.assertEqual(live.row(), [5, 4, 6])
        self.assertEqual([(live.undo(), live.row()) for time in range(4)],
                         [(True, [5, 4, 6]), (True, [5, 4, 6]), (True, [4, 4, 6]), (False, [4, 4, 6])])

    def test_what_is_taken_back_is_gone(self):
        live = Live([1, 2, 3])
        live.change(0, 7)
        live.change(1, 8)
        self.assertIs(live.undo(), True)
        live.put(3, 9)
        self.assertEqual(live.row(), [7, 2, 3, 9])
        self.assertEqual([(live.undo(), live.row()) for time in range(3)],
                         [(True, [7, 2, 3]), (True, [1, 2, 3]), (False, [1, 2, 3])])

    def test_asking_is_no_change(self):
        live = Live([1, 2, 1])
        live.take(1)
        for time in range(3):
            live.row()
            live.unlike(0, 2)
            live.firsts(0, 2)
        self.assertIs(live.undo(), True)
        self.assertEqual(live.row(), [1, 2, 1])
        self.assertIs(live.undo(), False)

    def test_random_steps_on_small_rows(self):
        for seed in range(60):
            source = random.Random(seed)
            row = random_row(seed, seed % 13, NUMBERS[:3 + seed % 7])
            live, beside = Live(row), Beside(row)
            for time in range(40):
                self.assert_step(live, beside, random_step(source, len(beside.now), 14))
                self.assert_answers(live, beside.now, all_windows(beside.now))
                self.assert_as_a_new_one(live, beside.now, all_windows(beside.now)[::5])
            self.assert_all_taken_back(live, beside)
            self.assertEqual(live.row(), row)
            self.assert_answers(live, row, all_windows(row))

    def test_random_steps_on_long_rows(self):
        for seed, row in enumerate(long_rows()):
            source = random.Random(seed)
            live, beside = Live(row), Beside(row)
            for time in range(60):
                self.assert_step(live, beside, random_step(source, len(beside.now)))
                if time % 6 == 0:
                    self.assert_answers(live, beside.now, some_windows(beside.now, time)[-40:])
                    self.assert_as_a_new_one(live, beside.now, some_windows(beside.now, time)[::31])
            self.assert_all_taken_back(live, beside)
            self.assertEqual(live.row(), row)
            self.assert_as_a_new_one(live, row, some_windows(row)[::31])

    def test_some_hundred_changes_all_taken_back(self):
        source = random.Random(71)
        row = random_row(72, 150, list(range(-9, 9)))
        live, beside = Live(row), Beside(row)
        while len(beside.earlier) < 700:
            do, place, number = random_step(source, len(beside.now))
            if do != "undo":
                self.assert_step(live, beside, (do, place, number))
        self.assert_all_taken_back(live, beside)
        self.assertEqual(live.row(), row)
        self.assert_answers(live, row, some_windows(row)[::31])

    def test_filled_from_none_and_emptied(self):
        live, beside = Live([]), Beside([])
        for number in range(300):
            self.assert_step(live, beside, ("put", number // 2, number % 7))
        self.assert_answers(live, beside.now, some_windows(beside.now)[::31])
        for number in range(300):
            self.assert_step(live, beside, ("take", (299 - number) // 3, None))
        self.assertEqual(live.row(), [])
        for number in range(300):
            self.assert_step(live, beside, ("undo", None, None))
        self.assert_answers(live, beside.now, some_windows(beside.now)[::31])
        self.assert_all_taken_back(live, beside)
        self.assertEqual(live.row(), [])


class Refused(LiveCase):
    ROWS = ([], [5], [2, 7, 2, 2], random_row(73, 300, list(range(9))))

    def assert_all_refused(self, live, place, with_put):
        self.assert_refused(NoPlace, live.change, place, 8)
        self.assert_refused(NoPlace, live.take, place)
        if with_put:
            self.assert_refused(NoPlace, live.put, place, 8)

    def test_no_place(self):
        for row in self.ROWS:
            live = Live(row)
            for name, thing in no_places(len(row)):
                with self.subTest(name=name, length=len(row)):
                    self.assert_all_refused(live, thing, True)
                    self.assertEqual(live.row(), row)
            # Behind the last number there is a place to put one, and none to change or take one.
            self.assert_all_refused(live, len(row), False)
            self.assertEqual(live.row(), row)
            self.assertIs(live.undo(), False)
            self.assertIsNone(live.put(len(row), 8))
            self.assertEqual(live.row(), row + [8])

    def test_truths_are_no_places(self):
        live = Live([4, 4, 6])
        for truth in (True, False):
            self.assert_all_refused(live, truth, True)
        self.assertEqual(live.row(), [4, 4, 6])

    def test_a_place_gone_is_no_place(self):
        live = Live([4, 6])
        live.take(0)
        self.assert_all_refused(live, 1, False)
        self.assert_all_refused(live, 2, True)
        live.take(0)
        self.assert_all_refused(live, 0, False)
        self.assert_all_refused(live, 1, True)
        live.undo()
        live.change(0, 9)
        self.assertEqual(live.row(), [9])

    def test_nothing_of_a_refused_one_is_undone(self):
        for row in self.ROWS:
            live = Live(row)
            live.put(0, 1)
            live.change(0, 2)
            length = len(row) + 1
            for name, thing in no_places(length) + [("length", length)]:
                self.assert_all_refused(live, thing, name != "length")
                self.assertEqual(live.row(), [2] + row)
                self.assertEqual(live.unlike(0, length), unlike_by_looking([2] + row, 0, length))
            self.assertEqual([(live.undo(), live.row()) for time in range(3)],
                             [(True, [1] + row), (True, row), (False, row)])

    def test_no_window(self):
        for row in self.ROWS:
            live = Live(row)
            live.put(0, 2)
            live.put(len(row) + 1, 3)
            live.take(0)
            length = len(row) + 1
            for ask in (live.unlike, live.firsts):
                for name, thing in no_places(length):
                    with self.subTest(name=name, length=length):
                        for place in (0, length):
                            self.assert_refused(NoWindow, ask, thing, place)
                            self.assert_refused(NoWindow, ask, place, thing)
                        self.assert_refused(NoWindow, ask, thing, thing)
                for first in range(1, length + 1):
                    self.assert_refused(NoWindow, ask, first, first - 1)
            self.assertEqual(live.row(), row + [3])
            self.assert_answers(live, row + [3], [(0, length), (0, 0), (length, length)])
            self.assertEqual([live.undo() for time in range(4)], [True, True, True, False])

    def test_windows_go_and_come_with_the_length(self):
        live = Live([1, 1])
        self.assertEqual((live.unlike(0, 2), live.firsts(2, 2)), (1, []))
        live.take(0)
        for ask in (live.unlike, live.firsts):
            self.assert_refused(NoWindow, ask, 0, 2)
            self.assert_refused(NoWindow, ask, 2, 2)
        live.undo()
        self.assertEqual((live.unlike(0, 2), live.firsts(2, 2)), (1, []))
        live.put(1, 2)
        self.assertEqual((live.unlike(0, 3), live.firsts(1, 3)), (2, [1, 2]))
        live.undo()
        for ask in (live.unlike, live.firsts):
            self.assert_refused(NoWindow, ask, 0, 3)


class AskersOwn(LiveCase):
    def test_the_row_handed_in_stays(self):
        for row in list(short_rows(3)) + long_rows():
            kept = list(row)
            live = Live(row)
            live.put(0, 8)
            live.change(0, 9)
            live.take(len(row))
            live.undo()
            self.assertEqual(row, kept)
            self.assertEqual(live.row(), [9] + kept)

    def test_what_becomes_of_it_changes_nothing(self):
        for row in list(short_rows(3)) + long_rows():
            kept = list(row)
            live = Live(row)
            row.reverse()
            row.append(4)
            row[0] = 10 ** 6
            self.assert_answers(live, kept, some_windows(kept)[::91])
            row.clear()
            self.assert_answers(live, kept, some_windows(kept)[::91])
            live.put(0, 5)
            live.undo()
            self.assert_answers(live, kept, some_windows(kept)[::91])

    def test_a_told_list_may_be_spoilt(self):
        for row in ([], [1], [1, 2, 1, 3, 3], random_row(74, 300, list(range(250)))):
            live = Live(row)
            live.put(0, 6)
            now = [6] + row
            for told in (live.row(), live.firsts(0, len(now)), live.firsts(0, 0)):
                told.append("spoilt")
                told[0] = None
                self.assert_answers(live, now, some_windows(now)[::91])
            live.undo()
            told = live.row()
            told.append("spoilt")
            told[0] = None
            self.assert_answers(live, row, some_windows(row)[::91])
            self.assertIs(live.undo(), False)

    def test_a_told_row_stays_as_it_was(self):
        live = Live([1, 2, 1])
        ahead = live.row()
        live.change(0, 5)
        live.take(1)
        self.assertEqual(ahead, [1, 2, 1])
        between = live.row()
        live.undo()
        self.assertEqual(between, [5, 1])

    def test_two_of_one_list_stand_apart(self):
        row = [1, 2, 1]
        one, other = Live(row), Live(row)
        one.change(0, 2)
        one.put(3, 4)
        self.assertEqual((one.row(), other.row()), ([2, 2, 1, 4], [1, 2, 1]))
        self.assertIs(other.undo(), False)
        self.assertEqual(other.take(2), 1)
        self.assertEqual((one.row(), other.row()), ([2, 2, 1, 4], [1, 2]))
        self.assertEqual((one.unlike(0, 4), other.unlike(0, 2)), (3, 2))
        self.assertEqual([one.undo() for time in range(3)], [True, True, False])
        self.assertEqual((one.row(), other.row(), row), ([1, 2, 1], [1, 2], [1, 2, 1]))

    def test_one_made_of_another_ones_row(self):
        one = Live([1, 2])
        other = Live(one.row())
        one.put(0, 3)
        self.assertEqual((one.row(), other.row()), ([3, 1, 2], [1, 2]))
        self.assertIs(other.undo(), False)


if __name__ == "__main__":
    unittest.main()
