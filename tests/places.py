"""Which places are in a figure, by what is near them instead of by cells; for figures of small numbers alone."""

from fractions import Fraction
from math import atan2, cos, pi, sin

import oracle


def lines_in(figure):
    """All segments of a figure, of Fractions."""
    kind = figure[0]
    if kind == "spot":
        return []
    if kind in ("path", "area"):
        points = [oracle.exact(point) for point in figure[1]]
        lines = list(zip(points, points[1:]))
        return lines + [(points[-1], points[0])] if kind == "area" else lines
    return [line for part in figure[1:] for line in lines_in(part)]


def is_round(points, place):
    """Whether a closed line goes round a place, not on it, an odd number of times."""
    x, y = place
    odd = False
    for (low_x, low_y), (high_x, high_y) in zip(points, points[1:] + points[:1]):
        if (low_y > y) != (high_y > y):
            odd ^= low_x + (high_x - low_x) * (y - low_y) / (high_y - low_y) > x
    return odd


def is_in(figure, place, near=Fraction(1, 10 ** 6), lines=None):
    kind = figure[0]
    lines = lines_in(figure) if lines is None else lines
    if kind == "spot":
        return oracle.exact(figure[1]) == place
    if kind in ("path", "area"):
        if any(oracle.is_on(line, place) for line in lines_in(figure)):
            return True
        return kind == "area" and is_round([oracle.exact(point) for point in figure[1]], place)
    if kind in ("both", "either", "less"):
        first = is_in(figure[1], place, near)
        second = is_in(figure[2], place, near)
        return {"both": first and second, "either": first or second, "less": first and not second}[kind]
    told = [is_in(figure[1], other, near / 10 ** 6) for other in [place] + around(figure[1], place, near)]
    return {"closure": any(told), "inner": all(told), "rim": any(told) and not all(told)}[kind]


def around(figure, place, near):
    """Places near to a place: one in each direction in which a segment leaves it, and one between each two of these."""
    leaving = []
    for line in lines_in(figure):
        if oracle.is_on(line, place):
            for end in line:
                if end != place:
                    leaving.append((end[0] - place[0], end[1] - place[1]))
    angles = sorted(atan2(y, x) for x, y in leaving) or [0.5]
    between = [(low + high) / 2 for low, high in zip(angles, angles[1:] + [angles[0] + 2 * pi]) if high - low > 1e-9]
    steps = leaving + [(Fraction(cos(angle)).limit_denominator(1000), Fraction(sin(angle)).limit_denominator(1000))
                       for angle in between]
    return [(place[0] + near * x, place[1] + near * y) for x, y in steps]


def some_figure(chance, deep, size):
    """A figure up to so deep between places of whole numbers from 0 below size."""
    kinds = ("spot", "path", "area") if deep == 1 else ("both", "either", "less", "closure", "inner", "rim")
    kind = chance.choice(kinds)
    if kind == "spot":
        return kind, some_place(chance, size)
    if kind in ("path", "area"):
        return kind, some_line(chance, size, chance.randrange(2, 5) + (kind == "area"))
    parts = (some_figure(chance, deep - 1, size), some_figure(chance, chance.randrange(1, deep), size))
    return (kind,) + parts if kind in ("both", "either", "less") else (kind, parts[0])


def some_place(chance, size):
    return (chance.randrange(size), 1), (chance.randrange(size), 1)


def some_line(chance, size, many):
    points = ()
    while len(points) < many or points[0] == points[-1]:
        point = some_place(chance, size)
        if not points or points[-1] != point:
            points = (points + (point,))[-many:]
    return points
