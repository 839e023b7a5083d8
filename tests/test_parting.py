"""Points 1 and 22 to 24: a row parted into the fewest windows, and the paper that fewer can't do."""

import itertools
import random
import unittest

from samples import (Case, GREAT, all_alike, all_unlike, all_windows, deep_list, deep_tuple, each_so_often,
                     great_rows, long_rows, odd_things, random_row, round_and_round, short_rows, small_rows,
                     unlike_by_looking)
from unlikerow.parting import fewest, is_parting, least_by, paper_of

FAR = 10 ** 20


def manys_of(row):
    """From 1 on: few, about the greatest there is, about the row's length, and far more."""
    unlike, length = len(set(row)), len(row)
    near = {1, 2, 3, 4, unlike // 2, unlike - 1, unlike, unlike + 1, length, 299, 300, FAR}
    return sorted(many for many in near if many >= 1)


def all_cuts(length):
    """Every rising list of places behind that ends with the length."""
    if length == 0:
        yield []
        return
    for size in range(length):
        for places in itertools.combinations(range(1, length), size):
            yield list(places) + [length]


def is_parting_by_looking(row, many, places):
    """Of a list of whole numbers."""
    if places != sorted(set(places)) or [0] + places != sorted(set([0] + places)):
        return False
    if places[-1:] != [len(row)][:len(row)]:
        return False
    return all(unlike_by_looking(row, first, behind) <= many for first, behind in zip([0] + places, places))


def fewest_by_trying(row, many):
    partings = [places for places in all_cuts(len(row)) if is_parting_by_looking(row, many, places)]
    return min(partings, key=lambda places: (len(places), [-place for place in places]))


def least_by_looking(row, many, windows):
    """Of a list of windows: which places each has, and no reckoning with their ends."""
    for first, behind in windows:
        if unlike_by_looking(row, first, behind) <= many:
            return None
    for one, other in itertools.combinations([list(range(first, behind)) for first, behind in windows], 2):
        shared = set(one) & set(other)
        if one[0] > other[0] or shared - {one[-1]} or shared - {other[0]}:
            return None
    return len(windows) + 1 if row else 0


def cut_besides(parting, seed):
    """The parting with some more cuts."""
    more = random.Random(seed).sample(range(1, parting[-1] + 1), min(parting[-1], 5))
    return sorted(set(parting) | set(more))


def near_lists(right, odds):
    """Lists near this one: a thing left out, twice, changed or exchanged with another, one more at any place."""
    for rank, thing in enumerate(right):
        yield from (right[:rank] + right[rank + 1:], right[:rank + 1] + right[rank:], right + [thing], [thing] + right)
    for one, other in itertools.combinations(range(len(right)), 2):
        exchanged = list(right)
        exchanged[one], exchanged[other] = right[other], right[one]
        yield exchanged
    for odd in odds:
        for rank in range(len(right) + 1):
            yield right[:rank] + [odd] + right[rank:]
            if rank < len(right):
                yield right[:rank] + [odd] + right[rank + 1:]


class IsParting(Case):
    def test_written_out(self):
        row = [3, -1, 3, 3, 5, -1]
        for many, places in ((1, [1, 2, 4, 5, 6]), (1, [1, 2, 3, 4, 5, 6]), (2, [4, 6]), (2, [2, 4, 6]), (2, [1, 4, 6]),
                             (3, [6]), (3, [1, 6]), (3, [5, 6]), (3, [1, 2, 3, 4, 5, 6]), (FAR, [6])):
            self.assertIs(is_parting(row, many, places), True, (many, places))
        for many, places in ((1, [2, 4, 5, 6]), (1, [6]), (2, [6]), (2, [5, 6]), (2, [3, 6]), (2, [4]), (2, [4, 6, 7]),
                             (2, [4, 6, 6]), (2, [0, 4, 6]), (2, [6, 4]), (2, [4, 5]), (2, []), (2, [4, 4, 6]),
                             (3, [0, 6]), (3, [5]), (3, [7]), (3, [-1, 6]), (FAR, [])):
            self.assertIs(is_parting(row, many, places), False, (many, places))

    def test_row_of_none(self):
        for many in (1, 2, 300, FAR):
            self.assertIs(is_parting([], many, []), True)
            for places in ([0], [1], [-1], [0, 0], [False], [None], [[]], (), "", None, 0, {}):
                self.assertIs(is_parting([], many, places), False)

    def test_every_list_of_few(self):
        for row in short_rows(3):
            numbers = range(-1, len(row) + 2)
            lists = [list(places) for size in range(5) for places in itertools.product(numbers, repeat=size)]
            for many in (1, 2, 3, FAR):
                for places in lists:
                    right = is_parting_by_looking(row, many, places)
                    self.assertIs(is_parting(row, many, places), right, (row, many, places))

    def test_every_cut_of_short_rows(self):
        for seed in range(60):
            row = random_row(seed, 7, [-GREAT, 0, 1, GREAT][:2 + seed % 3])
            for many in (1, 2, 3, 4, FAR):
                for places in all_cuts(7):
                    right = is_parting_by_looking(row, many, places)
                    self.assertIs(is_parting(row, many, places), right, (row, many, places))

    def test_as_long_as_can_be_cut_besides_and_near(self):
        for seed, row in enumerate(row for row in small_rows() + great_rows() if row):
            for many in manys_of(row):
                parting = fewest(row, many)
                for places in (parting, cut_besides(parting, seed), list(range(1, len(row) + 1))):
                    self.assertIs(is_parting(row, many, places), True, (row, many, places))
                for places in self.near(row, parting, seed):
                    right = is_parting_by_looking(row, many, places)
                    self.assertIs(is_parting(row, many, places), right, (row, many, places))

    def near(self, row, parting, seed):
        source = random.Random(seed)
        length = len(row)
        lists = list(near_lists(parting[-6:], (-1, 0, length, length + 1, FAR)))
        for rank in source.sample(range(len(parting)), min(len(parting), 6)):
            for place in (parting[rank] - 1, parting[rank] + 1):
                lists.append(parting[:rank] + [place] + parting[rank + 1:])
            lists += [parting[:rank] + parting[rank + 1:], parting[:rank] + [parting[rank]] + parting[rank:]]
        return lists + [parting[:-1], parting + [length], parting + [length + 1], parting[::-1], [0] + parting]

    def test_one_more_is_too_many_for_each_number(self):
        row = all_unlike(300)
        for many in range(1, 301):
            places = list(range(many, 300, many)) + [300]
            self.assertIs(is_parting(row, many, places), True)
            if many < 300:
                self.assertIs(is_parting(row, many, [many + 1] + list(range(many + 2, 301))), False)
                self.assertIs(is_parting(row, many, list(range(1, 300 - many)) + [300]), False)

    def test_odd_things_in_a_list(self):
        for row in ([4], [4, 4], [6, 4, 4, 6, 1], random_row(61, 40, list(range(9)))):
            for many in (1, 2, FAR):
                for name, odd in odd_things():
                    parting = fewest(row, many)[-4:]
                    with self.subTest(row=row, many=many, name=name):
                        for thing in near_lists(parting, [odd]):
                            if any(one is odd for one in thing):
                                self.assertIs(is_parting(row, many, thing), False)

    def test_truths_are_no_places(self):
        for many in (1, 2, FAR):
            self.assertIs(is_parting([4], many, [True]), False)
            self.assertIs(is_parting([4, 4], many, [True, 2]), False)
            self.assertIs(is_parting([], many, [False]), False)

    def test_other_things_are_none(self):
        for row in ([], [4], [4, 6], [6, 4, 4, 6, 1]):
            for name, thing in odd_things() + [("number", 1), ("length", len(row)), ("far", FAR)]:
                with self.subTest(row=row, name=name):
                    # The empty list parts a row of none.
                    self.assertIs(is_parting(row, 2, thing), name == "empty list" and row == [])
            places = fewest(row, 2)
            for thing in (tuple(places), dict.fromkeys(places), str(places), set(places), [places], (places,)):
                self.assertIs(is_parting(row, 2, thing), False)

    def test_deep_things(self):
        for depth in (1, 2, 900, 5000, 100000):
            for deep in (deep_list(depth), deep_tuple(depth)):
                for row in ([], [4], [6, 4, 4, 6, 1]):
                    for thing in (deep, [deep], fewest(row, 2) + [deep], [deep] + fewest(row, 2)):
                        self.assertIs(is_parting(row, 2, thing), False)


class Fewest(Case):
    def test_written_out(self):
        row = [3, -1, 3, 3, 5, -1]
        self.assertEqual([fewest(row, many) for many in (1, 2, 3, 4, FAR)], [[1, 2, 4, 5, 6], [4, 6], [6], [6], [6]])
        self.assertEqual(fewest([1, 2, 3, 4, 5], 2), [2, 4, 5])

    def test_row_of_none_and_of_one(self):
        for many in (1, 2, 300, FAR, 10 ** 5000):
            self.assertEqual(fewest([], many), [])
            self.assertEqual(fewest([-GREAT], many), [1])

    def test_against_all_partings(self):
        rows = list(short_rows(5)) + [random_row(seed, 9, list(range(2 + seed % 5))) for seed in range(40)]
        for row in rows:
            for many in (1, 2, 3, 4, FAR):
                told = fewest(row, many)
                self.assertEqual(told, fewest_by_trying(row, many), (row, many))
                self.assert_list_of_whole(told)

    def test_each_window_as_long_as_can_be(self):
        for row in long_rows():
            for many in manys_of(row):
                told = fewest(row, many)
                self.assertIs(is_parting_by_looking(row, many, told), True)
                self.assert_list_of_whole(told)
                for first, behind in zip([0] + told, told[:-1]):
                    self.assertEqual(unlike_by_looking(row, first, behind), many)
                    self.assertEqual(unlike_by_looking(row, first, behind + 1), many + 1)

    def test_rows_told_by_hand(self):
        for length in (1, 12, 300):
            for many in (1, 2, 7, 299, 300, 301, FAR):
                every = list(range(many, length, many)) + [length] if many < length else [length]
                self.assertEqual(fewest(all_unlike(length), many), every)
                self.assertEqual(fewest(all_alike(length), many), [length])
                self.assertEqual(fewest(round_and_round(7, length), many), every if many < 7 else [length])
                wide = list(range(5 * many, length, 5 * many)) if 5 * many < length else []
                self.assertEqual(fewest(each_so_often(5, length), many), wide + [length])


class Paper(Case):
    def test_written_out(self):
        row = [3, -1, 3, 3, 5, -1]
        self.assertEqual(paper_of(row, 1), [(0, 2), (1, 3), (2, 5), (4, 6)])
        self.assertEqual(paper_of(row, 2), [(0, 5)])
        self.assertEqual([paper_of(row, many) for many in (3, 4, FAR)], [[], [], []])
        self.assertEqual([paper_of([], many) for many in (1, 2, FAR)], [[], [], []])
        self.assertEqual([paper_of([7], many) for many in (1, 2, FAR)], [[], [], []])

    def test_told_papers_come_to_the_fewest(self):
        rows = list(short_rows(5)) + [random_row(seed, 9, list(range(2 + seed % 5))) for seed in range(40)]
        for row in rows + long_rows():
            for many in manys_of(row):
                told = paper_of(row, many)
                self.assert_list_of_tuples(told, 2)
                windows = len(fewest(row, many))
                self.assertEqual(len(told), max(0, windows - 1))
                self.assertEqual(least_by_looking(row, many, told), windows)
                self.assertEqual(least_by(row, many, told), windows)
                for first, behind in told:
                    self.assertTrue(0 <= first < behind <= len(row))

    def test_no_parting_has_fewer(self):
        for row in short_rows(5):
            for many in (1, 2, 3):
                self.assertEqual(least_by(row, many, paper_of(row, many)), len(fewest_by_trying(row, many)))


class LeastBy(Case):
    def assert_as_by_looking(self, row, many, windows):
        told = least_by(row, many, windows)
        self.assertEqual(told, least_by_looking(row, many, windows), (row, many, windows))
        if told is not None:
            self.assert_whole(told)

    def test_written_out(self):
        row = [3, -1, 3, 3, 5, -1]
        for many, paper, least in ((1, [(0, 2), (1, 3), (2, 5), (4, 6)], 5), (1, [(0, 2), (3, 5)], 3),
                                   (1, [(0, 3), (3, 6)], 3), (2, [(0, 5)], 2), (2, [(3, 6)], 2), (2, [(0, 6)], 2),
                                   (2, [], 1), (1, [], 1), (FAR, [], 1)):
            self.assertEqual(least_by(row, many, paper), least)
            self.assert_whole(least_by(row, many, paper))
        for many, paper in ((1, [(0, 1)]), (1, [(2, 4)]), (1, [(0, 0)]), (2, [(0, 4)]), (3, [(0, 6)]),
                            (1, [(0, 3), (1, 3)]), (1, [(1, 3), (0, 2)]), (1, [(0, 2), (0, 2)]), (1, [(0, 6), (4, 6)]),
                            (1, [(4, 7)]), (1, [(-1, 2)]), (1, [(2, 0)]), (FAR, [(0, 6)]), (1, [(-6, -1)])):
            self.assertIsNone(least_by(row, many, paper), (many, paper))

    def test_nothing_told(self):
        for many in (1, 2, 300, FAR):
            self.assertEqual(least_by([], many, []), 0)
            self.assert_whole(least_by([], many, []))
            for row in long_rows()[1:]:
                self.assertEqual(least_by(row, many, []), 1)
            for paper in ([(0, 0)], [(0, 1)], [()], [[]], (), None, 0, "", [0]):
                self.assertIsNone(least_by([], many, paper))

    def test_every_list_of_few_windows(self):
        for row in short_rows(3):
            windows = all_windows(row)
            for size in range(4):
                for many in (1, 2):
                    for paper in itertools.product(windows, repeat=size):
                        self.assert_as_by_looking(row, many, list(paper))

    def test_two_windows_of_longer_rows(self):
        for seed in range(6):
            row = random_row(seed, 7, list(range(2 + seed)))
            for many in (1, 2, 3):
                for paper in itertools.product(all_windows(row), repeat=2):
                    self.assert_as_by_looking(row, many, list(paper))

    def test_no_paper_asks_for_more_than_the_fewest(self):
        for seed in range(60):
            row = random_row(seed, 30, list(range(2 + seed % 6)))
            for many in (1, 2, 3):
                for paper in self.near(row, paper_of(row, many), seed):
                    told = least_by(row, many, paper)
                    self.assertTrue(told is None or told <= len(fewest(row, many)))

    def near(self, row, paper, seed):
        """Papers with a window left out, twice, exchanged, wider, narrower, moved, and ends beyond the row."""
        lists = list(near_lists(paper[-5:], [(0, 0), (0, len(row)), (len(row), len(row))]))
        ranks = range(len(paper))
        for rank in random.Random(seed).sample(ranks, min(len(paper), 8)):
            first, behind = paper[rank]
            for window in ((first - 1, behind), (first + 1, behind), (first, behind - 1), (first, behind + 1),
                           (first - 1, behind - 1), (first + 1, behind + 1), (first - 1, behind + 1)):
                lists.append(paper[:rank] + [window] + paper[rank + 1:])
            lists += [paper[:rank] + paper[rank + 1:], paper[:rank] + [paper[rank]] + paper[rank:]]
        return lists + [paper[::-1], paper[1:] + paper[:1], paper * 2]

    def test_near_papers(self):
        for seed, row in enumerate(small_rows() + great_rows()):
            for many in manys_of(row):
                for paper in self.near(row, paper_of(row, many), seed):
                    if all(0 <= first <= behind <= len(row) for first, behind in paper):
                        self.assert_as_by_looking(row, many, paper)
                    else:
                        self.assertIsNone(least_by(row, many, paper))

    def test_windows_told_otherwise(self):
        row = [6, 4, 4, 6, 1, 4, 6]
        paper = paper_of(row, 1)
        self.assertEqual(least_by(row, 1, paper), 6)
        odds = [odd for name, odd in odd_things() if name != "two"]
        odds += [(odd, 2) for name, odd in odd_things()] + [(0, odd) for name, odd in odd_things()]
        odds += [(6, odd) for name, odd in odd_things()] + [(odd, odd) for name, odd in odd_things()]
        odds += [(0, 2, 0), (0,), (), [0, 2], [6, 7], {0: 2}, "02", 0, 2, (-1, 2), (0, 8), (0, FAR), (-FAR, 7),
                 (-10 ** 5000, 10 ** 5000), (False, 2), (0, True), (1, 0), (7, 8), (7, 7), ((0, 2),)]
        for odd in odds:
            for thing in near_lists(paper, [odd]):
                if any(one is odd for one in thing):
                    self.assertIsNone(least_by(row, 1, thing))
            self.assertIsNone(least_by(row, 1, [odd]))

    def test_two_is_a_window(self):
        # The one odd thing that is a window has a width of 1: too few.
        self.assertIsNone(least_by([6, 4], 1, [(0, 1)]))
        self.assertEqual(least_by([6, 4], 1, [(0, 2)]), 2)

    def test_other_things_are_none(self):
        for row in ([], [4], [6, 4, 4, 6, 1]):
            paper = paper_of(row, 1)
            for name, thing in odd_things() + [("number", 1), ("far", FAR), ("a window", (0, 2))]:
                with self.subTest(row=row, name=name):
                    least = (1 if row else 0) if name == "empty list" else None
                    self.assertEqual(least_by(row, 1, thing), least)
            for thing in (tuple(paper), dict(paper), set(paper), str(paper), [paper], (paper,)):
                self.assertIsNone(least_by(row, 1, thing))

    def test_deep_things(self):
        for depth in (1, 2, 900, 5000, 100000):
            for deep in (deep_list(depth), deep_tuple(depth)):
                for row in ([], [4], [6, 4, 4, 6, 1]):
                    for thing in (deep, [deep], [(deep, 2)], [(0, deep)], paper_of(row, 1) + [deep]):
                        self.assertIsNone(least_by(row, 1, thing))


class AskersOwn(Case):
    def test_of_every_ask(self):
        for row in list(short_rows(3)) + long_rows():
            for many in manys_of(row):
                self.assert_askers_own(fewest, row, many)
                self.assert_askers_own(paper_of, row, many)
                self.assert_askers_own(is_parting, row, many, fewest(row, many))
                self.assert_askers_own(least_by, row, many, paper_of(row, many))

    def test_odd_lists_stay(self):
        row = [6, 4, 4, 6, 1]
        for name, odd in odd_things():
            for ask in (is_parting, least_by):
                thing = [odd, 5, odd]
                ask(row, 1, thing)
                self.assertEqual(len(thing), 3)
                self.assertTrue(thing[0] is odd and thing[1] == 5 and thing[2] is odd)
                self.assertEqual(row, [6, 4, 4, 6, 1])


if __name__ == "__main__":
    unittest.main()
