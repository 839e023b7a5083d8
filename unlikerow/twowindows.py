"""Two windows of a row: the numbers that they have in common, and the two of a width that are most alike."""


def numbers_in(row, window):
    return row[window[0]:window[1]]


def in_both(row, one, other):
    return len(set(numbers_in(row, one)) & set(numbers_in(row, other)))


def in_any(row, one, other):
    return len(set(numbers_in(row, one)) | set(numbers_in(row, other)))


def greatest_divisor(number, other):
    while other != 0:
        rest = number % other
        number = other
        other = rest
    return number


def share(row, one, other):
    both = in_both(row, one, other)
    whole = in_any(row, one, other)
    if whole == 0:
        return (1, 1)
    divisor = greatest_divisor(whole, both)
    return (both // divisor, whole // divisor)


def is_greater(fraction, other):
    return fraction[0] * other[1] > other[0] * fraction[1]


def most_alike(row, width):
    told = None
    for first in range(len(row) - 2 * width + 1):
        for second in range(first + width, len(row) - width + 1):
            found = share(row, (first, first + width), (second, second + width))
            # Firsts rise, so of several the one that is told stays.
            if told is None or is_greater(found, told[2]):
                told = (first, second, found)
    return told
