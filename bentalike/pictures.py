"""Pictures of scenes: letters seen through windows, lines and circles."""

from bentalike.checks import check_point, check_scene, check_text
from bentalike.drafts import read_back, written
from bentalike.errors import InvalidPoint, InvalidWindow
from bentalike.scenes import board_of, labels_on
from bentalike.windows import is_above, is_row_count, letters_in


def check_high(value, low):
    """Refuse what is no point above the low one in x and y."""
    check_point(value)
    if not is_above(value, low):
        raise InvalidPoint(value)


def check_count(value):
    if not is_row_count(value):
        raise InvalidWindow(value)


def letters(scene, low, high, count):
    """The letters of a window: so many rows of as many signs."""
    check_scene(scene)
    check_point(low)
    check_high(high, low)
    check_count(count)
    return letters_in(scene, low, high, count)


def picture(scene):
    """The picture of the scene, a text."""
    check_scene(scene)
    board = board_of(scene, ())
    labels, edge_labels, _ = labels_on(scene, board)
    edges = [(low, high, label) for (low, high), label in zip(board.edges, edge_labels)]
    return written(list(zip(board.vertices, labels)), edges)


def read_picture(text):
    """The pair of the vertices and edges that a picture tells."""
    check_text(text)
    return read_back(text)
