"""Scenes seen through windows, without checks of what is passed."""

from bentalike.kinds import is_whole
from bentalike.ratios import between, is_less
from bentalike.scenes import board_of, labels_on

MOST_ROWS = 24
SIGNS = ".123456789abcdef"
WORTHS = {"A": 1, "B": 2, "C": 4, "D": 8}


def is_above(high, low):
    """Whether both numbers of a point are above those of another one."""
    return is_less(low[0], high[0]) and is_less(low[1], high[1])


def is_row_count(value):
    """Whether value tells how many rows a window may have."""
    return is_whole(value) and 1 <= value <= MOST_ROWS


def letters_in(scene, low, high, count):
    """So many rows of so many signs, from high down to low."""
    xs = [between(low[0], high[0], 2 * column + 1, 2 * count) for column in range(count)]
    ys = [between(high[1], low[1], 2 * row + 1, 2 * count) for row in range(count)]
    board = board_of(scene, tuple([(x, y) for y in ys for x in xs]))
    labels, _, _ = labels_on(scene, board)
    signs = {vertex: letter_for(label) for vertex, label in zip(board.vertices, labels)}
    return tuple(["".join([signs[x, y] for x in xs]) for y in ys])


def letter_for(label):
    return SIGNS[sum([WORTHS[name] for name in label])]
