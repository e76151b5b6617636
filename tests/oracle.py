"""The document's words on points and cuts done again, slowly and by another way, to compare with."""

from fractions import Fraction
from math import atan2, pi


def exact(point):
    return tuple(Fraction(*part) for part in point)


def told(point):
    return tuple((part.numerator, part.denominator) for part in point)


def turn(p, q, r):
    area = (q[0] - p[0]) * (r[1] - p[1]) - (q[1] - p[1]) * (r[0] - p[0])
    return (area > 0) - (area < 0)


def is_on(segment, point):
    (x, y), (other_x, other_y) = segment
    low_x, high_x = sorted((x, other_x))
    low_y, high_y = sorted((y, other_y))
    return (turn(*segment, point) == 0 and low_x <= point[0] <= high_x and low_y <= point[1] <= high_y)


def common(first, second):
    """What two segments, of Fractions, have in common, by the numbers of the crossing lines."""
    (x, y), (end_x, end_y) = first
    (other_x, other_y), (goal_x, goal_y) = second
    run, rise = end_x - x, end_y - y
    other_run, other_rise = goal_x - other_x, goal_y - other_y
    slope = run * other_rise - rise * other_run
    if slope != 0:
        share = ((other_x - x) * other_rise - (other_y - y) * other_run) / slope
        place = (x + share * run, y + share * rise)
        return (place,) if is_on(first, place) and is_on(second, place) else ()
    ends = {end for end in first if is_on(second, end)} | {end for end in second if is_on(first, end)}
    return tuple(sorted(ends))


def vertices(segments, points):
    found = set(points)
    for segment in segments:
        found |= set(segment)
        for other in segments:
            if segment != other:
                found |= set(common(segment, other))
    return sorted(found)


def edges(segments, places):
    """The pairs of vertices on one segment with no vertex between."""
    found = set()
    for segment in segments:
        row = [index for index, place in enumerate(places) if is_on(segment, place)]
        for low in row:
            for high in row:
                if low < high and not any(low < other < high for other in row):
                    found.add((low, high))
    return sorted(found)


def turns(places, pairs):
    """For each vertex its darts by angle; for places of small numbers alone."""
    leaving = [[] for _ in places]
    for edge, (low, high) in enumerate(pairs):
        for dart, start, goal in ((2 * edge, low, high), (2 * edge + 1, high, low)):
            angle = atan2(places[goal][1] - places[start][1], places[goal][0] - places[start][0])
            leaving[start].append((angle if angle >= 0 else angle + 2 * pi, dart))
    return [tuple(dart for _, dart in sorted(row)) for row in leaving]


def behind(turns_told, pairs, dart):
    goal = pairs[dart // 2][0 if dart % 2 else 1]
    row = list(turns_told[goal])
    return row[(row.index(dart ^ 1) - 1) % len(row)]


def walks(turns_told, pairs):
    found = set()
    for first in range(2 * len(pairs)):
        walk = [first]
        while behind(turns_told, pairs, walk[-1]) != first:
            walk.append(behind(turns_told, pairs, walk[-1]))
        least = walk.index(min(walk))
        found.add(tuple(walk[least:] + walk[:least]))
    return sorted(found)


def area(places, pairs, walk):
    total = Fraction(0)
    for dart in walk:
        low, high = pairs[dart // 2]
        (a, b), (c, d) = (places[high], places[low]) if dart % 2 else (places[low], places[high])
        total += a * d - b * c
    return total / 2


def hanging(many, pairs):
    """For each vertex the least one that hangs together with it."""
    group = list(range(many))
    for _ in range(many):
        for low, high in pairs:
            group[low] = group[high] = min(group[low], group[high])
    return group
