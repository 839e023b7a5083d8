"""The windows with just so many unlike numbers, or with at most so many."""

from unlikerow.ready import Ready


def reach_of(ready, length, first, many):
    """The greatest behind of a window from first on with at most so many unlike numbers."""
    beyond = ready.end_of(first, many + 1)
    return length if beyond is None else beyond - 1


def stretches(row, many):
    # Only windows of width 0 have none.
    if many == 0:
        return []
    ready = Ready(row)
    told = []
    for first in range(len(row)):
        least = ready.end_of(first, many)
        if least is not None:
            told.append((first, least, reach_of(ready, len(row), first, many)))
    return told


def how_many(row, many):
    return sum([greatest - least + 1 for first, least, greatest in stretches(row, many)])


def counts(row):
    length = len(row)
    ready = Ready(row)
    told = [0] * (ready.unlike(0, length) + 1)
    for first in range(length):
        gains = ready.firsts(first, length)
        # The windows that end behind a gain, up to the next one, have as many unlike numbers as gains so far.
        for rank, stop in enumerate(gains[1:] + [length]):
            told[rank + 1] += stop - gains[rank]
    return told


def width_of(window):
    return window[1] - window[0]


# Of several, max and min take the one that comes first, and that is the one with the least first.
def longest(row, many):
    windows = [(first, greatest) for first, least, greatest in stretches(row, many)]
    return max(windows, key=width_of, default=None)


def shortest(row, many):
    windows = [(first, least) for first, least, greatest in stretches(row, many)]
    return min(windows, key=width_of, default=None)


def longest_within(row, many):
    ready = Ready(row)
    windows = [(first, reach_of(ready, len(row), first, many)) for first in range(len(row))]
    return max(windows, key=width_of, default=(0, 0))
