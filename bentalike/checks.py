"""Checks of arguments: each function raises the error told for its argument, or does nothing."""

from bentalike.errors import InvalidIndex, InvalidPoint, InvalidPoints, InvalidSegment, InvalidSegments
from bentalike.kinds import is_index, is_place, is_row, is_stretch

MOST_IN_ROW = 24


def check_point(value):
    if not is_place(value):
        raise InvalidPoint(value)


def check_segment(value):
    if not is_stretch(value):
        raise InvalidSegment(value)


def check_points(value):
    if not is_row(value, 0, MOST_IN_ROW):
        raise InvalidPoints(None)
    for index, point in enumerate(value):
        if not is_place(point):
            raise InvalidPoints(index)


def check_segments(value):
    if not is_row(value, 0, MOST_IN_ROW):
        raise InvalidSegments(None)
    for index, segment in enumerate(value):
        if not is_stretch(segment):
            raise InvalidSegments(index)


def check_index(value, many):
    """Refuse what is no index into something of which there are so many."""
    if not is_index(value, many):
        raise InvalidIndex(value)
