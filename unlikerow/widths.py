"""All windows of a width: their numbers of unlike ones, the most, the least, and the sums for every width."""

from unlikerow.errors import NoWindow
from unlikerow.kinds import is_place
from unlikerow.lasts import last_places, next_places


def of_width(row, width):
    if not is_place(width, len(row)):
        raise NoWindow("no window of the row has this width")
    lasts = last_places(row)
    nexts = next_places(row)
    unlike = lasts[:width].count(-1)
    numbers = [unlike]
    for first in range(len(row) - width):
        # Grown by the place behind it, then less its first one: so a window of width 0 needs no case of its own.
        if lasts[first + width] < first:
            unlike += 1
        if nexts[first] > first + width:
            unlike -= 1
        numbers.append(unlike)
    return numbers


def most_of(row, width):
    numbers = of_width(row, width)
    most = max(numbers)
    return (most, numbers.index(most))


def least_of(row, width):
    numbers = of_width(row, width)
    least = min(numbers)
    return (least, numbers.index(least))


def sums(row):
    return [sum(of_width(row, width)) for width in range(len(row) + 1)]
