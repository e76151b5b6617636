"""What several tests need: values by short names, and how a call fails."""

import random
from fractions import Fraction


def number(value):
    """The fraction, as the package writes it, of an int or a Fraction."""
    value = Fraction(value)
    return value.numerator, value.denominator


def at(x, y):
    """The point (x, y)."""
    return number(x), number(y)


def line(x, y, other_x, other_y):
    """The segment from (x, y) to (other_x, other_y)."""
    return at(x, y), at(other_x, other_y)


def ring_of(*points):
    """The segments of the closed line through points told as pairs (x, y)."""
    places = [at(*point) for point in points]
    return tuple(zip(places, places[1:] + places[:1]))


def failure(function, *given, **named):
    """The error that a call raises; None if it raises none."""
    try:
        function(*given, **named)
    except ValueError as error:
        return error
    return None


def some_segments(seed, many, size):
    """So many segments between places of whole numbers from 0 below size: they touch, cross, overlap."""
    chance = random.Random(seed)
    segments = []
    while len(segments) < many:
        x, y, other_x, other_y = [chance.randrange(size) for _ in range(4)]
        if (x, y) != (other_x, other_y):
            segments.append(line(x, y, other_x, other_y))
    return tuple(segments)


def some_points(seed, many, size):
    """So many points, with halves among their numbers."""
    chance = random.Random(seed)
    return tuple(at(Fraction(chance.randrange(2 * size), 2), Fraction(chance.randrange(2 * size), 2))
                 for _ in range(many))


SQUARE = ring_of((0, 0), (2, 0), (2, 2), (0, 2))
