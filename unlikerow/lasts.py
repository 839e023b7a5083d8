"""Last and next places of a row, its plain row, and the way back from last places."""

from unlikerow.errors import NoTable
from unlikerow.kinds import is_whole


def last_places(row):
    latest = {}
    lasts = []
    for place, number in enumerate(row):
        lasts.append(latest.get(number, -1))
        latest[number] = place
    return lasts


def next_places(row):
    nexts = [len(row)] * len(row)
    for place, last in enumerate(last_places(row)):
        if last != -1:
            nexts[last] = place
    return nexts


def plain_row(row):
    return row_of(last_places(row))


def are_lasts(thing):
    if not isinstance(thing, list):
        return False
    taken = {}
    for place, last in enumerate(thing):
        # The kind comes first: a truth equals a number, and a deep tuple can't be looked up in a dict.
        if not is_whole(last) or not -1 <= last < place or last in taken:
            return False
        if last != -1:
            taken[last] = True
    return True


def row_of(lasts):
    if not are_lasts(lasts):
        raise NoTable("this is no list of last places")
    row = []
    unlike = 0
    for last in lasts:
        if last == -1:
            row.append(unlike)
            unlike += 1
        else:
            row.append(row[last])
    return row
