"""Drawings with what lies where in them, without checks of what is passed."""

from bentalike.cutting import cut, edges_along, turns_at
from bentalike.facing import faces_of


class Board:
    """The drawing of some segments and lone points, with what lies at what."""

    def __init__(self, segments, points):
        self.segments = segments
        self.points = points
        vertices, rows = cut(segments, points)
        self.vertices = vertices
        self.edges = edges_along(rows)
        self.turns = turns_at(vertices, self.edges)
        self.faces = faces_of(vertices, self.edges, self.turns)
        # By a segment, the vertices along it.
        self.rows = dict(zip(segments, rows))
        self.sides = sides_of_edges(self.edges, self.faces)
        self.edges_at = edges_by_vertex(len(vertices), self.edges)
        self.faces_at = faces_by_vertex(len(vertices), self.edges, self.faces)


def sides_of_edges(edges, faces):
    """For each edge the face on the left and the one on the right of its first dart."""
    left = {dart: face for face, (walks, _) in enumerate(faces) for walk in walks for dart in walk}
    return [(left[2 * edge], left[2 * edge + 1]) for edge in range(len(edges))]


def edges_by_vertex(many, edges):
    """For each of so many vertices the edges that end there."""
    found = [[] for _ in range(many)]
    for edge, (low, high) in enumerate(edges):
        found[low].append(edge)
        found[high].append(edge)
    return found


def faces_by_vertex(many, edges, faces):
    """For each of so many vertices the faces at which it lies."""
    found = [{} for _ in range(many)]
    for face, (walks, spots) in enumerate(faces):
        for walk in walks:
            for dart in walk:
                found[edges[dart // 2][dart & 1]][face] = True
        for vertex in spots:
            found[vertex][face] = True
    return [list(row) for row in found]
