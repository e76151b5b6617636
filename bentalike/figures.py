"""Figures: what they are, their segments and lone points, which places and cells are in them."""

from bentalike.board import Board
from bentalike.checks import check_figure, check_point, check_points, check_segments
from bentalike.forms import MOST_SEGMENTS, dots_in, is_figure_form, lines_in
from bentalike.truths import truths_of


def is_figure(value):
    """Whether value, whatever it is, is a figure, of up to 24 segments."""
    return is_figure_form(value) and len(lines_in(value)) <= MOST_SEGMENTS


def segments_of(figure):
    """Its segments, in the order in which they stand, the closing ones of areas too."""
    check_figure(figure)
    return lines_in(figure)


def spots_of(figure):
    """Its lone points, in the order in which they stand."""
    check_figure(figure)
    return dots_in(figure)


def is_in(figure, point):
    """Whether the point is in the figure."""
    check_figure(figure)
    check_point(point)
    board = Board(lines_in(figure), dots_in(figure) + (point,))
    vertices, _, _ = truths_of(figure, board)
    return vertices[board.vertices.index(point)]


def cells_of(figure, segments, points):
    """For each vertex, edge, face whether it is in the figure, in the drawing of it and what is passed."""
    check_figure(figure)
    check_segments(segments)
    check_points(points)
    board = Board(lines_in(figure) + segments, dots_in(figure) + points)
    vertices, edges, faces = truths_of(figure, board)
    return tuple(vertices), tuple(edges), tuple(faces)
