"""What kind of thing was handed in: asked of anything, so nothing is compared before its kind is known."""


def is_whole(thing):
    return isinstance(thing, int) and not isinstance(thing, bool)


def is_place(thing, greatest):
    return is_whole(thing) and 0 <= thing <= greatest
