"""Points 1 and 19 to 21: windows that hold needs, the shortest and all tight ones."""

import itertools
import random
import unittest

from samples import (Case, GREAT, all_alike, all_unlike, all_windows, deep_dict, deep_list, deep_tuple, each_so_often,
                     great_rows, long_rows, odd_things, random_row, round_and_round, short_rows, shortest_by_trying,
                     small_rows)
from unlikerow.errors import NoNeeds
from unlikerow.holding import shortest_holding, tight_holding

ASKS = (shortest_holding, tight_holding)


def holds_by_looking(row, window, needs):
    held = row[window[0]:window[1]]
    return all(held.count(number) >= times for number, times in needs)


def holding_by_trying(row, needs):
    """All windows that hold the needs, firsts rising and then behinds."""
    ahead = {number: [row[:place].count(number) for place in range(len(row) + 1)] for number, times in needs}
    return [(first, behind) for first, behind in all_windows(row)
            if all(ahead[number][behind] - ahead[number][first] >= times for number, times in needs)]


def tight_by_trying(windows):
    """Those with no other one of them within, every pair looked at."""
    return [one for one in windows
            if not any(one != other and one[0] <= other[0] and other[1] <= one[1] for other in windows)]


def tight_by_shrinking(windows):
    """The same for many windows: what is within a window is within it less an end, and a wider one holds too."""
    held = set(windows)
    return [(first, behind) for first, behind in windows
            if (first + 1, behind) not in held and (first, behind - 1) not in held]


def some_needs(row, seed):
    """Needs of none, of each kind of number once or more often, and of numbers that the row has not."""
    source = random.Random(seed)
    numbers = sorted(set(row))
    yield []
    for number in (4, -GREAT, GREAT, 10 ** 6):
        yield [(number, 1)]
    for number in numbers[:2] + numbers[-2:]:
        for times in {1, 2, row.count(number), row.count(number) + 1}:
            yield [(number, times)]
    yield [(number, 1) for number in numbers]
    yield [(number, row.count(number)) for number in reversed(numbers)]
    yield [(number, 1) for number in numbers] + [(10 ** 6, 1)]
    for step in range(12):
        few = source.sample(numbers, min(len(numbers), source.choice((1, 2, 2, 3, 4))))
        yield [(number, source.randint(1, max(1, row.count(number) // 3))) for number in few]


def bad_needs():
    """Things that are no need, each with a name."""
    things = [("a tuple of one", (1,)), ("a tuple of three", (1, 2, 3)), ("a list of two", [1, 2]),
              ("a dict of two", {1: 2, 3: 4}), ("a text of two", "12"), ("tuple in tuple", ((1, 2),)),
              ("twice a tuple", ((1, 2), (3, 4))), ("a number", 1), ("a great number", GREAT)]
    for times in (0, -1, -2, -GREAT, -10 ** 5000):
        things += [("too few times", (1, times)), ("too few times of 0", (0, times))]
    # Of the odd things one is a need: (0, 1).
    things += [(name, odd) for name, odd in odd_things() if name != "two"]
    things += [(f"{name} as a number", (odd, 1)) for name, odd in odd_things()]
    things += [(f"{name} as times", (1, odd)) for name, odd in odd_things()]
    things += [(f"{name} as both", (odd, odd)) for name, odd in odd_things()]
    return things


class NeedsCase(Case):
    ROWS = ([], [5], [2, 7, 2, 2], [0, 1], random_row(51, 300, list(range(9))))

    def assert_no_needs(self, thing):
        for row in self.ROWS:
            kept = list(row)
            for ask in ASKS:
                self.assert_refused(NoNeeds, ask, row, thing)
            self.assertEqual(row, kept)


class Needs(NeedsCase):
    def test_one_thing_otherwise_at_any_place(self):
        good = [(7, 2), (2, 1), (-9, 4)]
        for name, odd in bad_needs():
            with self.subTest(name=name):
                for rank in range(len(good)):
                    self.assert_no_needs(good[:rank] + [odd] + good[rank + 1:])
                    self.assert_no_needs(good[:rank] + [odd] + good[rank:])
                self.assert_no_needs(good + [odd])
                self.assert_no_needs([odd])
                self.assert_no_needs([odd, odd])

    def test_truths_are_no_numbers(self):
        for needs in ([(True, 1)], [(1, True)], [(False, 1)], [(0, True)], [(1, False)], [(0, 1), (True, 2)],
                      [(2, 1), (7, True)], [(True, True)]):
            self.assert_no_needs(needs)

    def test_a_number_told_twice(self):
        for number in (0, 2, 7, -1, GREAT, -GREAT):
            for one, other in ((1, 1), (1, 2), (3, 1), (1, 10 ** 20 - 1)):
                self.assert_no_needs([(number, one), (number, other)])
                self.assert_no_needs([(number, one), (5, 1), (number, other)])
                self.assert_no_needs([(5, 1), (number, one), (number, other), (6, 1)])
                self.assert_no_needs([(5, 1), (6, 2), (number, one), (number, other)])

    def test_things_that_are_no_list(self):
        # One of the odd things are needs: the empty list.
        for name, thing in odd_things():
            if name != "empty list":
                with self.subTest(name=name):
                    self.assert_no_needs(thing)
        good = [(2, 1), (7, 2)]
        for thing in (tuple(good), dict(good), set(good), str(good), (2, 1), {}, (), "", 0, 1, -1, GREAT, 10 ** 5000):
            self.assert_no_needs(thing)

    def test_deep_things(self):
        for depth in (1, 2, 900, 5000, 100000):
            for thing in (deep_list(depth), deep_tuple(depth), deep_dict(depth)):
                for needs in (thing, [thing], [(2, 1), thing], [(thing, 1)], [(2, thing)], [(2, 1), (7, thing)]):
                    self.assert_no_needs(needs)

    def test_good_ones_are_not_refused(self):
        far = 10 ** 20 - 1
        for row in self.ROWS:
            for needs in ([(11, 1)], [(-GREAT, 1), (GREAT, far)], [(2, far)], [(0, far), (1, 1)], [(5, 2), (11, 301)],
                          [(number, far) for number in range(-150, 150)]):
                self.assertIsNone(shortest_holding(row, needs))
                self.assertEqual(tight_holding(row, needs), [])
            self.assertEqual(shortest_holding(row, []), (0, 0))

    def test_a_refused_one_changes_nothing(self):
        row, needs = [2, 7, 2, 2], [(2, 2), (7, 1), (2, 3)]
        ahead = [ask(row, [(2, 2), (7, 1)]) for ask in ASKS]
        self.assert_no_needs(needs)
        self.assertEqual(needs, [(2, 2), (7, 1), (2, 3)])
        self.assertEqual([ask(row, [(2, 2), (7, 1)]) for ask in ASKS], ahead)


class Holding(NeedsCase):
    def assert_holding(self, row, needs, tight, windows):
        told = tight_holding(row, needs)
        self.assertEqual(told, tight, needs)
        self.assert_list_of_tuples(told, 2)
        short = shortest_holding(row, needs)
        self.assertEqual(short, shortest_by_trying(windows), needs)
        self.assert_window_or_none(short)

    def test_written_out(self):
        row = [3, -1, 3, 3, 5, -1, 3]
        self.assertEqual(tight_holding(row, [(3, 1)]), [(0, 1), (2, 3), (3, 4), (6, 7)])
        self.assertEqual(tight_holding(row, [(3, 2)]), [(0, 3), (2, 4), (3, 7)])
        self.assertEqual(tight_holding(row, [(3, 2), (-1, 1)]), [(0, 3), (1, 4), (2, 6), (3, 7)])
        self.assertEqual(tight_holding(row, [(-1, 1), (3, 1), (5, 1)]), [(1, 5), (3, 6), (4, 7)])
        self.assertEqual(tight_holding(row, [(3, 5)]), [])
        self.assertEqual(tight_holding(row, [(4, 1)]), [])
        told = [shortest_holding(row, needs) for needs in ([(3, 1)], [(3, 2)], [(3, 2), (-1, 1)], [(3, 5)], [(4, 1)])]
        self.assertEqual(told, [(0, 1), (2, 4), (0, 3), None, None])
        self.assertEqual(shortest_holding(row, [(-1, 1), (3, 1), (5, 1)]), (3, 6))

    def test_no_needs(self):
        for row in small_rows() + great_rows():
            self.assertEqual(shortest_holding(row, []), (0, 0))
            self.assert_tuple_of_whole(shortest_holding(row, []), 2)
            self.assertEqual(tight_holding(row, []), [(place, place) for place in range(len(row) + 1)])
            self.assert_list_of_tuples(tight_holding(row, []), 2)

    def test_row_of_none_and_of_one(self):
        self.assertEqual((shortest_holding([], [(1, 1)]), tight_holding([], [(1, 1)])), (None, []))
        self.assertEqual((shortest_holding([1], [(1, 1)]), tight_holding([1], [(1, 1)])), ((0, 1), [(0, 1)]))
        self.assertEqual((shortest_holding([1], [(1, 2)]), tight_holding([1], [(1, 2)])), (None, []))
        self.assertEqual((shortest_holding([1], [(1, 1), (2, 1)]), tight_holding([1], [(2, 1)])), (None, []))

    def test_the_least_first_of_several(self):
        row = [9, 1, 0, 2, 2, 1, 1, 2]
        self.assertEqual(shortest_holding(row, [(1, 1), (2, 1)]), (4, 6))
        self.assertEqual(shortest_holding(row, [(2, 2), (1, 2)]), (3, 7))
        self.assertEqual(shortest_holding(row, [(2, 1)]), (3, 4))

    def test_times_alone_matter_not_the_order_of_needs(self):
        row = random_row(52, 40, [1, 2, 3])
        for needs in itertools.permutations([(1, 2), (2, 3), (3, 1)]):
            self.assertEqual(tight_holding(row, list(needs)), tight_holding(row, [(1, 2), (2, 3), (3, 1)]))
            self.assertEqual(shortest_holding(row, list(needs)), shortest_holding(row, [(1, 2), (2, 3), (3, 1)]))

    def test_every_need_of_few_on_every_short_row(self):
        times = [0, 1, 2, 3]
        for row in short_rows(4):
            for needed in itertools.product(times, [0, 1, 2], [0, 1], [0, 1]):
                needs = [(number, often) for number, often in enumerate(needed) if often > 0]
                windows = [window for window in all_windows(row) if holds_by_looking(row, window, needs)]
                self.assert_holding(row, needs, tight_by_trying(windows), windows)

    def test_against_trying_every_window(self):
        for seed, row in enumerate(small_rows()):
            for needs in some_needs(row, seed):
                windows = holding_by_trying(row, needs)
                self.assert_holding(row, needs, tight_by_shrinking(windows), windows)

    def test_rows_of_twelve_with_every_pair_looked_at(self):
        for seed in range(40):
            row = random_row(seed, 12, [-GREAT, 0, 1, GREAT - 1, GREAT][:2 + seed % 4])
            for needs in some_needs(row, seed):
                windows = [window for window in all_windows(row) if holds_by_looking(row, window, needs)]
                self.assertEqual(tight_by_shrinking(windows), tight_by_trying(windows))
                self.assert_holding(row, needs, tight_by_trying(windows), windows)

    def test_great_rows(self):
        for seed, row in enumerate(great_rows()):
            for needs in list(some_needs(row, seed))[::3]:
                windows = holding_by_trying(row, needs)
                self.assert_holding(row, needs, tight_by_shrinking(windows), windows)

    def test_rising_and_none_within_another(self):
        for seed, row in enumerate(long_rows()):
            for needs in some_needs(row, seed + 100):
                told = tight_holding(row, needs)
                for one, other in zip(told, told[1:]):
                    self.assertTrue(one[0] < other[0] and one[1] < other[1])


class RowsToldByHand(NeedsCase):
    def test_all_unlike(self):
        row = all_unlike(300)
        self.assertEqual(tight_holding(row, [(300, 1), (1, 1)]), [(0, 300)])
        self.assertEqual(tight_holding(row, [(number, 1) for number in range(1, 301)]), [(0, 300)])
        self.assertEqual(tight_holding(row, [(200, 1), (100, 1), (150, 1)]), [(100, 201)])
        self.assertIsNone(shortest_holding(row, [(200, 2)]))

    def test_all_alike(self):
        row = all_alike(300)
        for times in (1, 2, 150, 299, 300):
            firsts = range(300 - times + 1)
            self.assertEqual(tight_holding(row, [(-GREAT, times)]), [(first, first + times) for first in firsts])
            self.assertEqual(shortest_holding(row, [(-GREAT, times)]), (0, times))
        self.assertIsNone(shortest_holding(row, [(-GREAT, 301)]))

    def test_round_and_round(self):
        row = round_and_round(7, 300)
        every = [(GREAT - rank, 1) for rank in range(7)]
        self.assertEqual(tight_holding(row, every), [(first, first + 7) for first in range(294)])
        self.assertEqual(tight_holding(row, [(GREAT - 3, 2)]), [(first, first + 8) for first in range(3, 292, 7)])
        self.assertEqual(shortest_holding(row, [(GREAT - 3, 2), (GREAT, 1)]), (3, 11))

    def test_each_so_often(self):
        row = each_so_often(60, 300)
        self.assertEqual(tight_holding(row, [(GREAT, 60), (GREAT - 2, 1)]), [(0, 121)])
        self.assertEqual(tight_holding(row, [(GREAT - 1, 2), (GREAT - 3, 60)]), [(118, 240)])
        self.assertEqual(shortest_holding(row, [(GREAT - 1, 59)]), (60, 119))


class AskersOwn(NeedsCase):
    def test_of_every_ask(self):
        for seed, row in enumerate(list(short_rows(3)) + long_rows()):
            for needs in some_needs(row, seed):
                for ask in ASKS:
                    self.assert_askers_own(ask, row, needs)

    def test_changed_needs_are_looked_at_anew(self):
        row, needs = [1, 2, 1, 1, 2], [(1, 1)]
        self.assertEqual(tight_holding(row, needs), [(0, 1), (2, 3), (3, 4)])
        needs[0] = (1, 2)
        self.assertEqual(tight_holding(row, needs), [(0, 3), (2, 4)])
        needs.append((2, 1))
        self.assertEqual(tight_holding(row, needs), [(0, 3), (1, 4), (2, 5)])
        row[1] = 3
        self.assertEqual(tight_holding(row, needs), [(2, 5)])
        self.assertEqual(shortest_holding(row, needs), (2, 5))


if __name__ == "__main__":
    unittest.main()
