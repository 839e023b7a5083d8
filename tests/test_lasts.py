"""Points 1 and 4 to 6: last and next places, plain rows, lists of last places."""

import itertools
import unittest

from samples import (Case, GREAT, deep_dict, deep_list, deep_tuple, long_rows, odd_things, plain_by_looking,
                     random_row, short_rows)
from unlikerow.errors import NoTable
from unlikerow.lasts import are_lasts, last_places, next_places, plain_row, row_of


def all_rows():
    return list(short_rows()) + long_rows()


def lasts_by_looking(row):
    return [max([other for other in range(place) if row[other] == row[place]], default=-1) for place in range(len(row))]


def nexts_by_looking(row):
    length = len(row)
    return [min([other for other in range(place + 1, length) if row[other] == row[place]], default=length)
            for place in range(length)]


def are_lasts_by_looking(numbers):
    told = [number for number in numbers if number != -1]
    return all(-1 <= last < place for place, last in enumerate(numbers)) and len(told) == len(set(told))


class Places(Case):
    def test_written_out(self):
        self.assertEqual(last_places([3, -1, 3, 3, 5, -1]), [-1, -1, 0, 2, -1, 1])
        self.assertEqual(next_places([3, -1, 3, 3, 5, -1]), [2, 5, 3, 6, 6, 6])

    def test_ends(self):
        self.assertEqual(last_places([]), [])
        self.assertEqual(next_places([]), [])
        self.assertEqual(last_places([GREAT]), [-1])
        self.assertEqual(next_places([GREAT]), [1])
        self.assertEqual(last_places(list(range(300))), [-1] * 300)
        self.assertEqual(next_places(list(range(300))), [300] * 300)

    def test_near_great_numbers_are_unlike(self):
        row = [GREAT, GREAT - 1, -GREAT, 1 - GREAT, GREAT, -GREAT]
        self.assertEqual(last_places(row), [-1, -1, -1, -1, 0, 2])
        self.assertEqual(next_places(row), [4, 6, 5, 6, 6, 6])

    def test_against_looking_at_all_others(self):
        for row in all_rows():
            with self.subTest(row=row):
                self.assertEqual(last_places(row), lasts_by_looking(row))
                self.assertEqual(next_places(row), nexts_by_looking(row))
                self.assert_list_of_whole(last_places(row))
                self.assert_list_of_whole(next_places(row))


class Plain(Case):
    def test_written_out(self):
        self.assertEqual(plain_row([]), [])
        self.assertEqual(plain_row([-GREAT]), [0])
        self.assertEqual(plain_row([9, 4, 9, -2, 4, 1]), [0, 1, 0, 2, 1, 3])

    def test_against_counting(self):
        for row in all_rows():
            with self.subTest(row=row):
                self.assertEqual(plain_row(row), plain_by_looking(row))
                self.assert_list_of_whole(plain_row(row))

    def test_numbers_called_otherwise(self):
        for row in all_rows():
            names = {number: 10 ** 6 - 7 * rank for rank, number in enumerate(sorted(set(row)))}
            with self.subTest(row=row):
                self.assertEqual(plain_row([names[number] for number in row]), plain_row(row))

    def test_same_just_where_last_places_are(self):
        for one, other in itertools.combinations(all_rows(), 2):
            with self.subTest(one=one, other=other):
                self.assertEqual(plain_row(one) == plain_row(other), lasts_by_looking(one) == lasts_by_looking(other))

    def test_one_changed_number_shows(self):
        row = random_row(8, 300, list(range(250)))
        other = list(row)
        other[299] = 1000 if row[299] in row[:299] else row[0]
        self.assertNotEqual(last_places(row), last_places(other))
        self.assertNotEqual(plain_row(row), plain_row(other))


NO_LASTS = [
    [0], [1], [-2], [-1, 1], [1, -1], [-1, 2], [-1, -2], [-1, 0, 0], [-1, -1, 1, 1], [-1, -1, 0, 1, 0],
    [-1, 0, 1, 5, 3], [GREAT], [-GREAT], [-1, -GREAT],
    [True], [False], [-1, False], [-1, True], [-1, -1, True], [-1, 0, False], [-1, 0, True],
    ["-1"], ["0"], [-1, "0"], [-1, ""], [None], [-1, None], [[]], [[-1]], [-1, [0]], [-1, (0,)], [-1, {}],
    [-1, deep_list()], [-1, deep_tuple()], [-1, deep_dict()], [-1, 0, deep_tuple()], [deep_tuple(), -1],
    (), (-1,), (-1, 0), {}, {0: -1}, {-1: 0}, "", "-1", "[]", "[-1]", 0, -1, GREAT, 10 ** 5000, None,
]


def bad_lasts():
    things = [(f"written {rank}", thing) for rank, thing in enumerate(NO_LASTS)]
    things += [(name, thing) for name, thing in odd_things() if name != "empty list"]
    things += [(f"{name} in a list", [-1, thing]) for name, thing in odd_things()]
    return things


class Lasts(Case):
    def test_good_lists(self):
        for lasts in ([], [-1], [-1, 0], [-1, -1], [-1, 0, 1, 2], [-1, -1, 0, 1], [-1, -1, 1, 0], [-1] * 300):
            with self.subTest(lasts=lasts):
                self.assertIs(are_lasts(lasts), True)

    def test_last_places_are_lasts(self):
        for row in all_rows():
            with self.subTest(row=row):
                self.assertIs(are_lasts(lasts_by_looking(row)), True)
                self.assertEqual(row_of(lasts_by_looking(row)), plain_by_looking(row))
                self.assert_list_of_whole(row_of(lasts_by_looking(row)))

    def test_every_short_list(self):
        for length in range(5):
            for numbers in itertools.product(range(-2, length + 1), repeat=length):
                lasts = list(numbers)
                good = are_lasts_by_looking(lasts)
                with self.subTest(lasts=lasts):
                    self.assertIs(are_lasts(lasts), good)
                    if good:
                        self.assertEqual(lasts_by_looking(row_of(lasts)), lasts)
                        self.assertEqual(plain_by_looking(row_of(lasts)), row_of(lasts))
                    else:
                        self.assertRaises(NoTable, row_of, lasts)

    def test_a_long_list_spoilt_at_one_place(self):
        good = lasts_by_looking(random_row(9, 300, list(range(30))))
        for place in (0, 1, 150, 299):
            for wrong in (place, place + 1, 300, -2, False, None, good[-1] if place < 299 else good[-2]):
                lasts = list(good)
                lasts[place] = wrong
                with self.subTest(place=place, wrong=wrong):
                    self.assertIs(are_lasts(lasts), False)
                    self.assertRaises(NoTable, row_of, lasts)

    def test_other_things_are_none(self):
        for name, thing in bad_lasts():
            with self.subTest(name=name):
                self.assertIs(are_lasts(thing), False)

    def test_other_things_are_refused(self):
        for name, thing in bad_lasts():
            with self.subTest(name=name):
                with self.assertRaises(NoTable) as caught:
                    row_of(thing)
                self.assertIs(type(caught.exception), NoTable)


class AskersOwn(Case):
    def test_what_is_handed_in_stays(self):
        for ask in (last_places, next_places, plain_row):
            for row in all_rows():
                kept = list(row)
                ask(row)
                with self.subTest(ask=ask.__name__, row=kept):
                    self.assertEqual(row, kept)
        for ask in (are_lasts, row_of):
            for row in all_rows():
                lasts = lasts_by_looking(row)
                kept = list(lasts)
                ask(lasts)
                with self.subTest(ask=ask.__name__, lasts=kept):
                    self.assertEqual(lasts, kept)

    def test_refused_lists_stay(self):
        lasts = [-1, 0, 0, True]
        self.assertIs(are_lasts(lasts), False)
        self.assertRaises(NoTable, row_of, lasts)
        self.assertEqual(repr(lasts), "[-1, 0, 0, True]")

    def test_told_lists_are_new(self):
        for row in all_rows():
            for ask, thing in ((last_places, row), (next_places, row), (plain_row, row),
                               (row_of, lasts_by_looking(row))):
                kept = list(thing)
                told = ask(thing)
                right = list(told)
                told.append("spoilt")
                told[0] = None
                with self.subTest(ask=ask.__name__, row=row):
                    self.assertEqual(thing, kept)
                    self.assertEqual(ask(thing), right)

    def test_what_becomes_of_a_list_changes_no_told_one(self):
        for ask in (last_places, next_places, plain_row, row_of):
            handed = [-1, -1, 0, 1]
            told = ask(handed)
            right = list(told)
            handed.reverse()
            handed.append(9)
            with self.subTest(ask=ask.__name__):
                self.assertEqual(told, right)


if __name__ == "__main__":
    unittest.main()
