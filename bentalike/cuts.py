"""Cuts of segments and lone points: vertices, edges, turns, walks and their areas."""

from bentalike.checks import check_index, check_points, check_segments
from bentalike.cutting import area_of, cut, edges_along, turns_at
from bentalike.links import walks_along


def vertices_of(segments, points):
    """The vertices, ascending."""
    check_segments(segments)
    check_points(points)
    vertices, _ = cut(segments, points)
    return vertices


def edges_of(segments, points):
    """The edges, ascending pairs of indexes of vertices."""
    check_segments(segments)
    check_points(points)
    _, rows = cut(segments, points)
    return edges_along(rows)


def turns_of(segments, points):
    """For each vertex its turns: the darts that leave it, in the order of their directions."""
    check_segments(segments)
    check_points(points)
    vertices, rows = cut(segments, points)
    return turns_at(vertices, edges_along(rows))


def walks_of(segments, points):
    """All walks, ascending, each the tuple of its darts from the least one on."""
    return walks_along(turns_of(segments, points))


def walk_area(segments, points, index):
    """The area, a fraction, of the walk with this index."""
    check_segments(segments)
    check_points(points)
    vertices, rows = cut(segments, points)
    edges = edges_along(rows)
    walks = walks_along(turns_at(vertices, edges))
    check_index(index, len(walks))
    return area_of(vertices, edges, walks[index])
