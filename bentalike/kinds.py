"""What values are: each function here takes any value and tells True or False."""

from math import gcd


def is_whole(value):
    # Python counts True and False among the whole numbers, the document does not.
    return isinstance(value, int) and not isinstance(value, bool)


def is_index(value, many):
    """Whether value is an index into something of which there are so many."""
    return is_whole(value) and 0 <= value < many


def is_row(value, low, high):
    """Whether value is a tuple of from low up to high values."""
    return isinstance(value, tuple) and low <= len(value) <= high


def is_fraction(value):
    if not is_row(value, 2, 2) or not is_whole(value[0]) or not is_whole(value[1]):
        return False
    return value[1] > 0 and gcd(value[0], value[1]) == 1


def is_place(value):
    """Whether value is a point."""
    return is_row(value, 2, 2) and is_fraction(value[0]) and is_fraction(value[1])


def is_stretch(value):
    """Whether value is a segment."""
    return is_row(value, 2, 2) and is_place(value[0]) and is_place(value[1]) and value[0] != value[1]


def is_ascending(row):
    """Whether each of the values, which Python can compare, is less than the one behind it."""
    return all(row[at] < row[at + 1] for at in range(len(row) - 1))
