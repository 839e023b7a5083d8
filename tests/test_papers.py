"""Points 1 and 11: whether a thing is the list of a window's first places."""

import itertools
import unittest

from samples import (Case, GREAT, all_alike, all_unlike, all_windows, deep_list, each_so_often, firsts_by_looking,
                     great_rows, odd_things, random_row, round_and_round, short_rows, small_rows, some_windows)
from unlikerow.papers import are_firsts
from unlikerow.ready import Ready


def lasts_in_window(row, first, behind):
    return [place for place in range(first, behind) if row[place] not in row[place + 1:behind]]


def with_one_put_in(places, wrong):
    """The list with this at each place in turn, in the stead of what stands there and ahead of it."""
    for rank in range(len(places) + 1):
        yield places[:rank] + [wrong] + places[rank:]
    for rank in range(len(places)):
        yield places[:rank] + [wrong] + places[rank + 1:]


def wrong_lists(row, first, behind):
    """Lists of whole numbers near the right one, none of them right."""
    right = firsts_by_looking(row, first, behind)
    for rank, place in enumerate(right):
        ahead, rest = right[:rank], right[rank + 1:]
        yield from (ahead + rest, ahead + [place, place] + rest, right + [place])
        yield from (ahead + [place - 1] + rest, ahead + [place + 1] + rest)
    for more in set(range(first, behind)) - set(right):
        yield from (sorted(right + [more]), right + [more])
    for outside in (-1, first - 1, first - 2, behind, behind + 1, len(row), -len(row) - 1, GREAT, -GREAT, 10 ** 5000):
        if outside not in range(first, behind):
            yield from (sorted(right + [outside]), [outside] + right, right + [outside])
    if len(right) > 1:
        yield from (right[::-1], right[1:] + right[:1])
    for one, other in itertools.combinations(range(len(right)), 2):
        exchanged = list(right)
        exchanged[one], exchanged[other] = right[other], right[one]
        yield exchanged
    if lasts_in_window(row, first, behind) != right:
        yield lasts_in_window(row, first, behind)


class PaperCase(Case):
    def assert_right_and_wrong(self, row, windows):
        for first, behind in windows:
            right = firsts_by_looking(row, first, behind)
            self.assertIs(are_firsts(row, first, behind, right), True, (first, behind))
            for wrong in wrong_lists(row, first, behind):
                self.assertIs(are_firsts(row, first, behind, wrong), False, (first, behind, len(wrong)))


class Firsts(PaperCase):
    def test_written_out(self):
        row = [3, -1, 3, 3, 5, -1]
        for first, behind, right in ((0, 6, [0, 1, 4]), (2, 6, [2, 4, 5]), (1, 4, [1, 2]), (2, 4, [2]), (5, 6, [5])):
            self.assertIs(are_firsts(row, first, behind, right), True)
        self.assertIs(are_firsts(row, 0, 6, [2, 3, 4]), False)
        self.assertIs(are_firsts(row, 0, 6, [3, 4, 5]), False)
        self.assertIs(are_firsts(row, 2, 4, [3]), False)
        self.assertIs(are_firsts(row, 2, 6, [0, 1, 4]), False)
        self.assertIs(are_firsts(row, 2, 6, [0, 2, 3]), False)

    def test_width_nought(self):
        for row in ([], [1], [1, 1, 2], random_row(21, 300, list(range(250)))):
            for place in range(len(row) + 1):
                self.assertIs(are_firsts(row, place, place, []), True)
                for wrong in ([place], [place - 1], [0], [-1], [0, 0]):
                    self.assertIs(are_firsts(row, place, place, wrong), False)

    def test_every_list_of_few(self):
        for row in short_rows(3):
            numbers = range(-1, len(row) + 1)
            lists = [list(places) for size in range(4) for places in itertools.product(numbers, repeat=size)]
            for first, behind in all_windows(row):
                right = firsts_by_looking(row, first, behind)
                for places in lists:
                    self.assertIs(are_firsts(row, first, behind, places), places == right, (row, first, behind, places))

    def test_every_window_of_small_rows(self):
        for row in short_rows():
            with self.subTest(row=row):
                self.assert_right_and_wrong(row, all_windows(row))
        for row in small_rows():
            with self.subTest(row=row):
                self.assert_right_and_wrong(row, all_windows(row)[::29] + [(0, len(row))])

    def test_great_rows(self):
        for row in great_rows():
            for first, behind in some_windows(row)[::3]:
                right = firsts_by_looking(row, first, behind)
                self.assertIs(are_firsts(row, first, behind, right), True)
                if right:
                    self.assertIs(are_firsts(row, first, behind, right[:-1]), False)
                    self.assertIs(are_firsts(row, first, behind, right[1:]), False)
        for row in great_rows()[:2]:
            self.assert_right_and_wrong(row, [(0, 300), (0, 150), (150, 300), (120, 180)])

    def test_rows_told_by_hand(self):
        for length in (1, 40, 300):
            every = list(range(length))
            self.assertIs(are_firsts(all_unlike(length), 0, length, every), True)
            self.assertIs(are_firsts(all_alike(length), 0, length, [0]), True)
            self.assertIs(are_firsts(all_alike(length), length - 1, length, [length - 1]), True)
        self.assertIs(are_firsts(all_alike(300), 0, 300, list(range(300))), False)
        self.assertIs(are_firsts(all_alike(300), 0, 300, [299]), False)
        self.assertIs(are_firsts(round_and_round(7, 300), 5, 300, list(range(5, 12))), True)
        self.assertIs(are_firsts(round_and_round(7, 300), 5, 300, list(range(7, 14))), False)
        self.assertIs(are_firsts(each_so_often(7, 300), 5, 300, [5] + list(range(7, 300, 7))), True)
        self.assertIs(are_firsts(each_so_often(7, 300), 5, 300, list(range(0, 300, 7))), False)

    def test_near_great_numbers_are_unlike(self):
        row = [GREAT, GREAT - 1, -GREAT, 1 - GREAT, GREAT, -GREAT]
        self.assertIs(are_firsts(row, 0, 6, [0, 1, 2, 3]), True)
        self.assertIs(are_firsts(row, 0, 6, [0, 2]), False)

    def test_what_was_told_may_be_handed_on(self):
        for row in small_rows():
            ready = Ready(row)
            for first, behind in all_windows(row):
                self.assertIs(are_firsts(row, first, behind, ready.firsts(first, behind)), True)


class OtherThings(PaperCase):
    ROWS = ([], [4], [4, 4], [4, 6], [6, 4, 4, 6, 1], random_row(22, 40, list(range(9))))

    def test_truths_are_no_places(self):
        for row in ([4, 6, 4], [4, 4, 6]):
            for thing in ([False], [0, True], [False, 1], [False, True], [False, 2], [0, 2, True], [True]):
                for first, behind in all_windows(row):
                    self.assertIs(are_firsts(row, first, behind, thing), False, (first, behind, thing))

    def test_odd_things_in_a_list(self):
        for row in self.ROWS:
            for first, behind in {(0, len(row)), (0, len(row) // 2), (len(row) // 2, len(row)), (0, 0)}:
                right = firsts_by_looking(row, first, behind)
                for name, odd in odd_things():
                    with self.subTest(row=row, first=first, behind=behind, name=name):
                        for thing in with_one_put_in(right, odd):
                            self.assertIs(are_firsts(row, first, behind, thing), False)

    def test_places_told_otherwise(self):
        row = [6, 4, 4, 6, 1]
        for first, behind in all_windows(row):
            right = firsts_by_looking(row, first, behind)
            for thing in (tuple(right), {place: place for place in right}, dict.fromkeys(right), set(right), str(right),
                          " ".join(str(place) for place in right), len(right), [right], (right,), {0: right},
                          [tuple(right)], right + [[]], right + [None], right + [""]):
                self.assertIs(are_firsts(row, first, behind, thing), False, (first, behind, thing))
            for thing in ([str(place) for place in right], [[place] for place in right], [(place,) for place in right]):
                self.assertIs(are_firsts(row, first, behind, thing), right == [], (first, behind, thing))

    def test_other_things_are_none(self):
        numbers = [(f"number {number}", number) for number in (0, 1, -1, GREAT, -GREAT)]
        for row in self.ROWS:
            for first, behind in {(0, 0), (0, len(row)), (len(row), len(row))}:
                for name, thing in odd_things() + numbers:
                    # Two of the odd things are lists that may be right.
                    right = name in ("empty list", "list") and thing == firsts_by_looking(row, first, behind)
                    with self.subTest(row=row, first=first, behind=behind, name=name):
                        self.assertIs(are_firsts(row, first, behind, thing), right)

    def test_deep_lists(self):
        for depth in (1, 2, 900, 5000, 100000):
            thing = deep_list(depth)
            for row in self.ROWS:
                self.assertIs(are_firsts(row, 0, len(row), thing), False)
                self.assertIs(are_firsts(row, 0, 0, thing), False)

    def test_long_lists(self):
        row = random_row(23, 300, list(range(9)))
        self.assertIs(are_firsts(row, 0, 300, list(range(100000))), False)
        self.assertIs(are_firsts(row, 0, 300, firsts_by_looking(row, 0, 300) * 1000), False)


class AskersOwn(PaperCase):
    def test_what_is_handed_in_stays(self):
        row = random_row(24, 40, list(range(9)))
        kept_row = list(row)
        right = firsts_by_looking(row, 3, 30)
        things = [right, right[::-1], right + [3], []] + [[odd, 3] for name, odd in odd_things()]
        for thing in things:
            kept = list(thing)
            are_firsts(row, 3, 30, thing)
            self.assertEqual(len(thing), len(kept))
            self.assertTrue(all(one is other for one, other in zip(thing, kept)))
            self.assertEqual(row, kept_row)
        places = {3: 4}
        self.assertIs(are_firsts(row, 3, 30, places), False)
        self.assertEqual(places, {3: 4})

    def test_what_becomes_of_it_changes_nothing(self):
        for row in small_rows() + great_rows():
            self.assert_askers_own(are_firsts, row, 0, len(row), firsts_by_looking(row, 0, len(row)))

    def test_a_changed_thing_is_looked_at_anew(self):
        row = [6, 4, 4, 6, 1]
        thing = [0, 1, 4]
        self.assertIs(are_firsts(row, 0, 5, thing), True)
        thing[1] = 2
        self.assertIs(are_firsts(row, 0, 5, thing), False)
        thing[1] = 1
        self.assertIs(are_firsts(row, 0, 5, thing), True)
        row[1] = 6
        self.assertIs(are_firsts(row, 0, 5, thing), False)
        thing[1] = 2
        self.assertIs(are_firsts(row, 0, 5, thing), True)


if __name__ == "__main__":
    unittest.main()
