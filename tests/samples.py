"""Rows and odd things that several tests hand in."""

import itertools
import random

GREAT = 10 ** 20


def short_rows(longest=4, unlike=3):
    """Every row of at most so many numbers out of so few."""
    for length in range(longest + 1):
        for row in itertools.product(range(unlike), repeat=length):
            yield list(row)


def random_row(seed, length, numbers):
    source = random.Random(seed)
    return [source.choice(numbers) for place in range(length)]


def long_rows():
    """Rows of none, of one, of forty and of 300; few unlike numbers and more than 200."""
    many = list(range(-GREAT, GREAT + 1, GREAT // 125))
    several = random_row(1, 300, many)
    crowded = several[:50] + random.Random(2).sample(many, 250)
    return [
        [],
        [0],
        [-GREAT],
        [GREAT],
        [7] * 40,
        list(range(40)),
        random_row(3, 40, [-GREAT, -1, 0, 1, GREAT]),
        random_row(4, 40, list(range(12))),
        random_row(5, 300, [-GREAT, 3, GREAT]),
        random_row(6, 300, list(range(-20, 20))),
        crowded,
        list(range(300)),
    ]


def deep_list(depth=20000):
    thing = []
    for step in range(depth):
        thing = [thing]
    return thing


def deep_tuple(depth=20000):
    thing = ()
    for step in range(depth):
        thing = (thing,)
    return thing


def deep_dict(depth=20000):
    thing = {}
    for step in range(depth):
        thing = {0: thing}
    return thing


def ring():
    thing = []
    thing.append(thing)
    return thing


class Stubborn:
    """A thing that can be neither compared, hashed, counted nor shown."""

    def refuse(self, *others):
        raise RuntimeError("asked what it can't tell")

    __eq__ = __ne__ = __lt__ = __le__ = __gt__ = __ge__ = refuse
    __hash__ = __bool__ = __len__ = __repr__ = __str__ = __index__ = __iter__ = refuse


def odd_things():
    """Things that are no whole numbers, each with a name (deep ones can't be shown)."""
    return [
        ("true", True), ("false", False), ("none", None),
        ("no sign", ""), ("a figure", "0"), ("a minus", "-1"), ("a text", "a b\n~"),
        ("empty list", []), ("list", [0]), ("list in list", [[0]]),
        ("empty tuple", ()), ("tuple", (0,)), ("two", (0, 1)),
        ("empty dict", {}), ("dict", {0: 0}), ("set", {0, 1}), ("function", len), ("class", int),
        ("deep list", deep_list()), ("deep tuple", deep_tuple()), ("deep dict", deep_dict()),
        ("ring", ring()), ("stubborn", Stubborn()),
    ]
