"""The table of all windows of a row, and the way back from it."""

from unlikerow.errors import NoTable
from unlikerow.kinds import is_whole
from unlikerow.lasts import last_places, row_of


def line_of(lasts, first):
    """The numbers of unlike ones of the windows from first on."""
    unlike = 0
    line = [unlike]
    for last in lasts[first:]:
        if last < first:
            unlike += 1
        line.append(unlike)
    return line


def table_of(row):
    lasts = last_places(row)
    return [line_of(lasts, first) for first in range(len(row) + 1)]


def is_line(thing, length):
    return isinstance(thing, list) and len(thing) == length and all([is_whole(number) for number in thing])


def has_form(thing):
    """Lists of whole numbers as long as a table's are: what is of another kind can't be compared."""
    if not isinstance(thing, list) or len(thing) == 0:
        return False
    return all([is_line(line, len(thing) - first) for first, line in enumerate(thing)])


def last_in_table(table, place):
    # A window gains nothing by a place just where it has that place's last place.
    firsts = [first for first in range(place) if table[first][place - first] == table[first][place - first + 1]]
    return max(firsts, default=-1)


def row_of_table(thing):
    if not has_form(thing):
        raise NoTable("this is no table")
    row = row_of([last_in_table(thing, place) for place in range(len(thing) - 1)])
    if table_of(row) != thing:
        raise NoTable("this is the table of no row")
    return row
