"""Plans, maps with points, without checks of what is passed."""

from bentalike.board import Board
from bentalike.kinds import is_place, is_row
from bentalike.links import from_least
from bentalike.ratios import is_ahead
from bentalike.scenes import board_of, labels_on
from bentalike.sheets import least_of
from bentalike.soundness import is_sound_map


def chart_with(edges, turns, faces, labels):
    """The map of a drawing whose vertices, edges, faces have these labels."""
    specials, edge_labels, face_labels = labels
    arcs = tuple([(low, high, label) for (low, high), label in zip(edges, edge_labels)])
    turns = tuple([from_least(turn) if turn else () for turn in turns])
    told = [(label, tuple(sorted(walks)), spots) for label, (walks, spots) in zip(face_labels, faces)]
    return specials, arcs, turns, (), tuple(told)


def chart_on(board, labels):
    return chart_with(board.edges, board.turns, board.faces, labels)


def plan_in(scene):
    """The plan of a scene."""
    board = board_of(scene, ())
    return chart_on(board, labels_on(scene, board)), board.vertices


def least_in(scene):
    """The least map that is left of the map of a scene's plan."""
    chart, _ = plan_in(scene)
    return least_of(chart)


def is_plan_form(value):
    """Whether value, whatever it is, is a plan."""
    if not is_row(value, 2, 2) or not is_sound_map(value[0]) or not isinstance(value[1], tuple):
        return False
    (specials, arcs, turns, rings, faces), points = value
    if rings or len(points) != len(specials) or not all(is_place(point) for point in points):
        return False
    # Only where points and ends ascend are there segments to draw.
    if not are_ahead(points) or not all(tail < head for tail, head, _ in arcs):
        return False
    lines = tuple([(points[tail], points[head]) for tail, head, _ in arcs])
    board = Board(lines, tuple([point for point, turn in zip(points, turns) if not turn]))
    labels = specials, tuple([label for _, _, label in arcs]), tuple([label for label, _, _ in faces])
    return board.vertices == points and chart_on(board, labels) == value[0]


def are_ahead(points):
    """Whether each point comes ahead of the one behind it."""
    return all(is_ahead(points[at], points[at + 1]) for at in range(len(points) - 1))
