"""A row parted into the fewest windows of at most so many unlike numbers, and a paper that fewer can't do."""

from unlikerow.kinds import is_place
from unlikerow.papers import new_places
from unlikerow.ready import Ready
from unlikerow.somany import reach_of


def has_more(row, first, behind, many):
    """By the numbers alone, as both checkers below look at a row."""
    return len(new_places(row, first, behind)) > many


def is_parting(row, many, thing):
    if not isinstance(thing, list):
        return False
    first = 0
    for behind in thing:
        if not is_place(behind, len(row)) or behind <= first or has_more(row, first, behind, many):
            return False
        first = behind
    return first == len(row)


def fewest(row, many):
    ready = Ready(row)
    parting = []
    first = 0
    # No parting gets further with as many windows than one that makes each as long as can be.
    while first < len(row):
        first = reach_of(ready, len(row), first, many)
        parting.append(first)
    return parting


def paper_of(row, many):
    # Each window of the fewest, but the last one, has more than so many once the next place is in it.
    ends = fewest(row, many)[:-1]
    return [(first, end + 1) for first, end in zip([0] + ends, ends)]


def is_window(row, thing):
    if not isinstance(thing, tuple) or len(thing) != 2:
        return False
    return is_place(thing[1], len(row)) and is_place(thing[0], thing[1])


def least_by(row, many, thing):
    if not isinstance(thing, list):
        return None
    earliest = 0
    for window in thing:
        if not is_window(row, window) or window[0] < earliest or not has_more(row, window[0], window[1], many):
            return None
        # Each window needs a cut between two of its places, so with one place in common no cut serves two.
        earliest = window[1] - 1
    return len(thing) + 1 if len(row) > 0 else 0
