"""Exact numbers: fractions as reduced pairs, points as three whole numbers."""

from math import gcd, lcm


def sign(number):
    if number == 0:
        return 0
    return 1 if number > 0 else -1


def fraction(upper, lower):
    """The fraction upper / lower, lower not 0, reduced, with its lower part above 0."""
    shared = gcd(upper, lower)
    if lower < 0:
        shared = -shared
    return upper // shared, lower // shared


def plus(first, second):
    return fraction(first[0] * second[1] + second[0] * first[1], first[1] * second[1])


def times(first, second):
    return fraction(first[0] * second[0], first[1] * second[1])


def between(low, high, upper, lower):
    """The number upper / lower of the way from low to high."""
    first, second = low[0] * high[1], high[0] * low[1]
    return fraction(first * (lower - upper) + second * upper, low[1] * high[1] * lower)


def half(number):
    return fraction(number[0], 2 * number[1])


def is_less(first, second):
    return first[0] * second[1] < second[0] * first[1]


def is_ahead(first, second):
    """Whether the first point comes ahead of the second one: by x, then by y."""
    # Reduced fractions are equal exactly if their parts are.
    if first[0] != second[0]:
        return is_less(first[0], second[0])
    return is_less(first[1], second[1])


def scaled(point):
    """Whole numbers (x, y, w), w above 0: the point is (x / w, y / w)."""
    (x, x_lower), (y, y_lower) = point
    w = lcm(x_lower, y_lower)
    return x * (w // x_lower), y * (w // y_lower), w


def unscaled(triple):
    """The point (x / w, y / w) of whole numbers (x, y, w), w not 0."""
    x, y, w = triple
    return fraction(x, w), fraction(y, w)


def crossed(first, second):
    """The cross product: of two scaled points the line through them, of two lines where they meet."""
    return (
        first[1] * second[2] - first[2] * second[1],
        first[2] * second[0] - first[0] * second[2],
        first[0] * second[1] - first[1] * second[0],
    )


def along(line, triple):
    """The scalar product: of a line through scaled points with a third one, 0 if that lies on it."""
    return line[0] * triple[0] + line[1] * triple[1] + line[2] * triple[2]
