"""The windows that hold needs: each needed number stands in them so often at least."""

from unlikerow.errors import NoNeeds
from unlikerow.kinds import is_whole
from unlikerow.somany import width_of


def is_need(thing):
    if not isinstance(thing, tuple) or len(thing) != 2:
        return False
    return is_whole(thing[0]) and is_whole(thing[1]) and thing[1] >= 1


def are_needs(thing):
    if not isinstance(thing, list) or not all([is_need(need) for need in thing]):
        return False
    return len(dict(thing)) == len(thing)


class Held:
    """What a window holds of some needs, while it grows at its end and shrinks at its begin."""

    def __init__(self, needs):
        self.lacking = dict(needs)
        self.unmet = len(needs)

    def grow(self, number):
        if number in self.lacking:
            self.lacking[number] -= 1
            if self.lacking[number] == 0:
                self.unmet -= 1

    def shrink(self, number):
        if number in self.lacking:
            self.lacking[number] += 1
            if self.lacking[number] == 1:
                self.unmet += 1


def tight_holding(row, needs):
    if not are_needs(needs):
        raise NoNeeds("these are no needs")
    if needs == []:
        return [(place, place) for place in range(len(row) + 1)]
    held = Held(needs)
    first = 0
    windows = []
    for place, number in enumerate(row):
        # Here the window up to this place lacks something, so one that holds has none within it that ends earlier.
        held.grow(number)
        if held.unmet == 0:
            while held.unmet == 0:
                held.shrink(row[first])
                first += 1
            windows.append((first - 1, place + 1))
    return windows


def shortest_holding(row, needs):
    # A shortest one is tight; of several min takes the one that comes first, with the least first.
    return min(tight_holding(row, needs), key=width_of, default=None)
