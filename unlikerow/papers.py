"""A small checker of papers: whether a list tells the first places of a window."""

from unlikerow.kinds import is_whole


def are_firsts(row, first, behind, thing):
    # The kinds come first: a truth equals a number, and a deep list can't be compared.
    if not isinstance(thing, list) or not all([is_whole(place) for place in thing]):
        return False
    return thing == new_places(row, first, behind)


def new_places(row, first, behind):
    """By the numbers alone: a paper would show little if last places, which told it, checked it too."""
    seen = {}
    places = []
    for place in range(first, behind):
        if row[place] not in seen:
            seen[row[place]] = True
            places.append(place)
    return places
