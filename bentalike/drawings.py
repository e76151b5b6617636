"""Drawings of segments and lone points: vertices, edges, faces, and their cells."""

from bentalike.board import Board
from bentalike.checks import check_point, check_points, check_segments
from bentalike.errors import InvalidCell
from bentalike.inside import cell_with, place_in
from bentalike.kinds import is_index, is_row


def drawing_of(segments, points):
    """The drawing: (VERTICES, EDGES, FACES)."""
    check_segments(segments)
    check_points(points)
    board = Board(segments, points)
    return board.vertices, board.edges, board.faces


def how_many(segments, points):
    """How many vertices, edges, faces there are."""
    vertices, edges, faces = drawing_of(segments, points)
    return len(vertices), len(edges), len(faces)


def cell_at(segments, points, point):
    """The cell of the drawing in which the point is."""
    check_segments(segments)
    check_points(points)
    check_point(point)
    return cell_with(Board(segments, points), point)


def check_cell(value, board):
    many = {"vertex": len(board.vertices), "edge": len(board.edges), "face": len(board.faces)}
    if not is_row(value, 2, 2) or not isinstance(value[0], str) or value[0] not in many:
        raise InvalidCell(value)
    if not is_index(value[1], many[value[0]]):
        raise InvalidCell(value)


def does_lie_at(segments, points, cell, other):
    """Whether a cell lies at another one, which is of a greater kind (vertex, edge, face)."""
    check_segments(segments)
    check_points(points)
    board = Board(segments, points)
    check_cell(cell, board)
    check_cell(other, board)
    kind, index = cell
    if kind == "vertex" and other[0] == "edge":
        return other[1] in board.edges_at[index]
    if kind == "vertex" and other[0] == "face":
        return other[1] in board.faces_at[index]
    return kind == "edge" and other[0] == "face" and other[1] in board.sides[index]


def point_in(segments, points, cell):
    """A point of the cell."""
    check_segments(segments)
    check_points(points)
    board = Board(segments, points)
    check_cell(cell, board)
    return place_in(board, cell)
