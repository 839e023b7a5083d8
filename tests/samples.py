"""Rows, windows and odd things that several tests hand in, and what they hold the answers against."""

import copy
import itertools
import random
import re
import unittest

from unlikerow.errors import NoCommand, NoNeeds, NoPlace, NoRow, NoTable, NoWindow, RowError

GREAT = 10 ** 20
NUMBERS = [-GREAT, 1 - GREAT, -1, 0, 1, 2, 3, GREAT - 1, GREAT]
NUMBER_TEXT = "(0|-?[1-9][0-9]{0,29})"
ROW_TEXT = f"-|{NUMBER_TEXT}( {NUMBER_TEXT})*"


def short_rows(longest=4, unlike=3):
    """Every row of at most so many numbers out of so few."""
    for length in range(longest + 1):
        for row in itertools.product(range(unlike), repeat=length):
            yield list(row)


def random_row(seed, length, numbers):
    source = random.Random(seed)
    return [source.choice(numbers) for place in range(length)]


def long_rows():
    """Rows of none, of one, of twelve, of forty and of 300; few unlike numbers and more than 200."""
    many = list(range(-GREAT, GREAT + 1, GREAT // 125))
    several = random_row(1, 300, many)
    crowded = several[:50] + random.Random(2).sample(many, 250)
    return [
        [],
        [0],
        [-GREAT],
        [GREAT],
        random_row(43, 12, [GREAT - 1, GREAT, -GREAT, 1 - GREAT]),
        random_row(44, 12, [-1, 0, 1]),
        random_row(45, 12, list(range(7 - 10 ** 15, 15 - 10 ** 15))),
        [7] * 40,
        list(range(40)),
        random_row(3, 40, [-GREAT, -1, 0, 1, GREAT]),
        random_row(4, 40, list(range(12))),
        random_row(5, 300, [-GREAT, 3, GREAT]),
        random_row(6, 300, list(range(-20, 20))),
        crowded,
        list(range(300)),
    ]


def small_rows():
    return list(short_rows()) + [row for row in long_rows() if len(row) <= 40]


def great_rows():
    return [row for row in long_rows() if len(row) == 300]


def all_unlike(length):
    return list(range(length, 0, -1))


def all_alike(length):
    return [-GREAT] * length


def round_and_round(unlike, length):
    return [GREAT - place % unlike for place in range(length)]


def each_so_often(times, length):
    return [GREAT - place // times for place in range(length)]


def all_windows(row):
    return [(first, behind) for first in range(len(row) + 1) for behind in range(first, len(row) + 1)]


def some_windows(row, seed=1):
    """The narrowest and widest windows, those at the ends, and some others."""
    length = len(row)
    source = random.Random(seed)
    places = range(length + 1)
    windows = [(place, place) for place in places] + [(place, place + 1) for place in range(length)]
    windows += [(0, behind) for behind in places] + [(first, length) for first in places]
    windows += [tuple(sorted((source.choice(places), source.choice(places)))) for step in range(1000)]
    return windows


def firsts_by_looking(row, first, behind):
    return [place for place in range(first, behind) if row[place] not in row[first:place]]


def unlike_by_looking(row, first, behind):
    return len(set(row[first:behind]))


def plain_by_looking(row):
    return [len(set(row[:row.index(number)])) for number in row]


def row_by_looking(text):
    """The row of a row's text, or None."""
    if not re.fullmatch(ROW_TEXT, text):
        return None
    return [] if text == "-" else [int(word) for word in text.split(" ")]


def shortest_by_trying(windows):
    return min(windows, key=lambda window: (window[1] - window[0], window[0]), default=None)


def deep_list(depth=20000):
    thing = []
    for step in range(depth):
        thing = [thing]
    return thing


def deep_tuple(depth=20000):
    thing = ()
    for step in range(depth):
        thing = (thing,)
    return thing


def deep_dict(depth=20000):
    thing = {}
    for step in range(depth):
        thing = {0: thing}
    return thing


def ring():
    thing = []
    thing.append(thing)
    return thing


class Stubborn:
    """A thing that can be neither compared, hashed, counted nor shown."""

    def refuse(self, *others):
        raise RuntimeError("asked what it can't tell")

    __eq__ = __ne__ = __lt__ = __le__ = __gt__ = __ge__ = refuse
    __hash__ = __bool__ = __len__ = __repr__ = __str__ = __index__ = __iter__ = refuse


def odd_things():
    """Things that are no whole numbers, each with a name (deep ones can't be shown)."""
    return [
        ("true", True), ("false", False), ("none", None),
        ("no sign", ""), ("a figure", "0"), ("a minus", "-1"), ("a text", "a b\n~"),
        ("empty list", []), ("list", [0]), ("list in list", [[0]]),
        ("empty tuple", ()), ("tuple", (0,)), ("two", (0, 1)),
        ("empty dict", {}), ("dict", {0: 0}), ("set", {0, 1}), ("function", len), ("class", int),
        ("deep list", deep_list()), ("deep tuple", deep_tuple()), ("deep dict", deep_dict()),
        ("ring", ring()), ("stubborn", Stubborn()),
    ]


def no_places(length):
    """Things that are no place from 0 to the length, each with a name."""
    numbers = (-1, -2, -length - 1, length + 1, length + 2, GREAT, -GREAT, 10 ** 5000)
    return [(f"number {rank}", number) for rank, number in enumerate(numbers)] + odd_things()


def spoil(told):
    """Grows and overwrites a told list, and each list in it."""
    for inner in told:
        if isinstance(inner, list):
            spoil(inner)
    told.append("spoilt")
    told[0] = None


class Beside:
    """A list kept beside a live row, with every earlier state of it."""

    def __init__(self, row):
        self.now = list(row)
        self.earlier = []

    def step(self, do, place, number):
        """Does one of the four; tells what the live row is to tell."""
        if do == "undo":
            if not self.earlier:
                return False
            self.now = self.earlier.pop()
            return True
        self.earlier.append(list(self.now))
        if do == "put":
            self.now.insert(place, number)
            return None
        gone = self.now[place]
        if do == "take":
            del self.now[place]
            return gone
        self.now[place] = number
        return None


def random_step(source, length, most=300):
    do = source.choice(("change", "change", "put", "put", "take", "undo"))
    if length == 0 and do in ("change", "take"):
        do = "put"
    if length >= most and do == "put":
        do = "take"
    place = source.randrange(length + 1 if do == "put" else max(1, length))
    # At the ends a place too far or too near shows first.
    if source.random() < 0.3 and length > 0:
        place = source.choice((0, length if do == "put" else length - 1))
    return (do, place, source.choice(NUMBERS))


class Case(unittest.TestCase):
    def assert_refused(self, refusal, ask, *things):
        """By this class itself, which is under no other refusal's."""
        with self.assertRaises(refusal) as caught:
            ask(*things)
        self.assertIs(type(caught.exception), refusal)
        self.assertIsInstance(caught.exception, RowError)
        self.assertIsInstance(caught.exception, ValueError)
        for other in (NoTable, NoWindow, NoNeeds, NoPlace, NoRow, NoCommand):
            self.assertEqual(isinstance(caught.exception, other), other is refusal)

    def assert_no_window(self, ask, *things):
        self.assert_refused(NoWindow, ask, *things)

    def assert_whole(self, *numbers):
        """An int, and no truth, which would equal one."""
        for number in numbers:
            self.assertIs(type(number), int)

    def assert_list_of_whole(self, told):
        self.assertIs(type(told), list)
        self.assert_whole(*told)

    def assert_tuple_of_whole(self, told, length):
        self.assertIs(type(told), tuple)
        self.assertEqual(len(told), length)
        self.assert_whole(*told)

    def assert_list_of_tuples(self, told, length):
        self.assertIs(type(told), list)
        for one in told:
            self.assert_tuple_of_whole(one, length)

    def assert_window_or_none(self, told):
        if told is not None:
            self.assert_tuple_of_whole(told, 2)

    def assert_askers_own(self, ask, row, *more):
        """What is handed in stays; what becomes of it or of what was told changes no answer."""
        kept = copy.deepcopy((row,) + more)
        lists = [thing for thing in more if isinstance(thing, list)]
        told = ask(row, *more)
        right = copy.deepcopy(told)
        self.assertEqual((row,) + more, kept)
        row.reverse()
        row.append(4)
        row[0] = 10 ** 6
        for thing in lists:
            thing.clear()
        self.assertEqual(told, right)
        self.assertEqual(ask(*copy.deepcopy(kept)), right)
        changed = ask(*copy.deepcopy((row,) + more))
        self.assertEqual(ask(row, *more), changed)
        row.clear()
        row.extend(kept[0])
        for thing, right_thing in zip(lists, [thing for thing in kept[1:] if isinstance(thing, list)]):
            thing.extend(right_thing)
        if isinstance(told, list):
            spoil(told)
        self.assertEqual(ask(row, *more), right)
        self.assertEqual((row,) + more, kept)
