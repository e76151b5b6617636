"""Segments and lone points cut where they meet, without checks of what is passed."""

from bentalike.ordering import sorted_by
from bentalike.plane import heading, is_turned_less, lies_on, meet
from bentalike.ratios import crossed, fraction, half, is_ahead, plus, scaled


def marks_on(segments, points):
    """For each segment the points on it that become vertices, in no order, perhaps more than once."""
    marks = [list(segment) for segment in segments]
    for first in range(len(segments)):
        for second in range(first):
            shared = meet(segments[first], segments[second])
            marks[first].extend(shared)
            marks[second].extend(shared)
        marks[first].extend([point for point in points if lies_on(segments[first], point)])
    return marks


def cut(segments, points):
    """The vertices, ascending, and for each segment the ascending indexes of the vertices on it."""
    marks = marks_on(segments, points)
    found = {point: True for point in points}
    for row in marks:
        for point in row:
            found[point] = True
    vertices = tuple(sorted_by(list(found), is_ahead))
    numbers = {vertex: index for index, vertex in enumerate(vertices)}
    return vertices, [sorted({numbers[point] for point in row}) for row in marks]


def edges_along(rows):
    """The edges, ascending, of rows of vertices along the segments."""
    return tuple(sorted({pair for row in rows for pair in zip(row, row[1:])}))


def turns_at(vertices, edges):
    """For each vertex the darts that leave it, in the order of their directions."""
    triples = [scaled(vertex) for vertex in vertices]
    leaving = [[] for _ in vertices]
    for edge, (low, high) in enumerate(edges):
        leaving[low].append((heading(triples[low], triples[high]), 2 * edge))
        leaving[high].append((heading(triples[high], triples[low]), 2 * edge + 1))
    return tuple([tuple([dart for _, dart in sorted_by(row, is_turned_less)]) for row in leaving])


def ends_of(edges, dart):
    """The vertices from which and to which a dart goes."""
    low, high = edges[dart // 2]
    return (high, low) if dart & 1 else (low, high)


def area_of(vertices, edges, walk):
    """Half the sum, over the darts of a walk from (a, b) to (c, d), of a d - b c."""
    total = (0, 1)
    for dart in walk:
        tail, head = ends_of(edges, dart)
        start, goal = scaled(vertices[tail]), scaled(vertices[head])
        total = plus(total, fraction(crossed(start, goal)[2], start[2] * goal[2]))
    return half(total)
