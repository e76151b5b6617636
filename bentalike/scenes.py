"""Scenes: named figures, the labels of places, and the drawing of all figures."""

from bentalike.board import Board
from bentalike.checks import check_point, check_scene
from bentalike.forms import MOST_SEGMENTS, dots_in_scene, is_scene_form, lines_in_scene
from bentalike.truths import truths_of


def is_scene(value):
    """Whether value, whatever it is, is a scene, of up to 24 segments."""
    return is_scene_form(value) and len(lines_in_scene(value)) <= MOST_SEGMENTS


def board_of(scene, points):
    """The board of all figures, with some points more."""
    return Board(lines_in_scene(scene), dots_in_scene(scene) + points)


def labels_on(scene, board):
    """For the vertices, the edges, the faces of a board of all figures, and perhaps more, their labels."""
    truths = [(name, truths_of(figure, board)) for name, figure in scene]
    counts = (len(board.vertices), len(board.edges), len(board.faces))
    return tuple([
        tuple([tuple([name for name, told in truths if told[kind][index]]) for index in range(many)])
        for kind, many in enumerate(counts)
    ])


def label_at(scene, point):
    """The label of the point: the ascending names of the sets in which it is."""
    check_scene(scene)
    check_point(point)
    board = board_of(scene, (point,))
    vertices, _, _ = labels_on(scene, board)
    return vertices[board.vertices.index(point)]


def drawing_in(scene):
    """The drawing of all figures: (VERTICES, EDGES, FACES)."""
    check_scene(scene)
    board = board_of(scene, ())
    return board.vertices, board.edges, board.faces


def labels_in(scene):
    """The labels of the vertices, the edges, the faces of the drawing of all figures."""
    check_scene(scene)
    return labels_on(scene, board_of(scene, ()))
