"""Points, their turns, segments and what these have in common, directions in order."""

from bentalike.checks import check_point, check_points, check_segment
from bentalike.errors import InvalidPoints
from bentalike.kinds import is_place
from bentalike.ordering import sorted_by
from bentalike.plane import heading, is_turned_less, lies_on, meet, side_of
from bentalike.ratios import scaled


def is_point(value):
    """Whether value, whatever it is, is a point."""
    return is_place(value)


def turn_of(point, other, third):
    """1 if the third point lies left of the line from the first through the second, 0 on it, else -1."""
    check_point(point)
    check_point(other)
    check_point(third)
    return side_of(point, other, third)


def is_on(segment, point):
    """Whether the point is a place of the segment."""
    check_segment(segment)
    check_point(point)
    return lies_on(segment, point)


def common(segment, other_segment):
    """What two segments have in common: () or (P,) or (P, Q), ascending."""
    check_segment(segment)
    check_segment(other_segment)
    return meet(segment, other_segment)


def in_turn(point, points):
    """The indexes of the points in the order of their directions from point."""
    check_point(point)
    check_points(points)
    for index, goal in enumerate(points):
        if goal == point:
            raise InvalidPoints(index)
    start = scaled(point)
    rows = [(heading(start, scaled(goal)), index) for index, goal in enumerate(points)]
    return tuple([index for _, index in sorted_by(rows, is_turned_less)])
