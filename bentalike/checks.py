"""Checks of arguments: each function raises the error told for its argument, or does nothing."""

from bentalike.errors import (
    BadText, InvalidDart, InvalidFigure, InvalidIndex, InvalidMap, InvalidName, InvalidPick, InvalidPoint,
    InvalidPoints, InvalidScene, InvalidSegment, InvalidSegments, InvalidSide, InvalidSpecial, TooMany
)
from bentalike.forms import (
    MOST_SEGMENTS, is_figure_form, is_name, is_pick_form, is_scene_form, is_side, lines_in, lines_in_scene
)
from bentalike.kinds import is_index, is_place, is_row, is_stretch
from bentalike.soundness import is_sound_map

MOST_IN_ROW = 24


def check_point(value):
    if not is_place(value):
        raise InvalidPoint(value)


def check_segment(value):
    if not is_stretch(value):
        raise InvalidSegment(value)


def check_points(value):
    if not is_row(value, 0, MOST_IN_ROW):
        raise InvalidPoints(None)
    for index, point in enumerate(value):
        if not is_place(point):
            raise InvalidPoints(index)


def check_segments(value):
    if not is_row(value, 0, MOST_IN_ROW):
        raise InvalidSegments(None)
    for index, segment in enumerate(value):
        if not is_stretch(segment):
            raise InvalidSegments(index)


def check_index(value, many):
    """Refuse what is no index into something of which there are so many."""
    if not is_index(value, many):
        raise InvalidIndex(value)


def check_figure(value):
    if not is_figure_form(value):
        raise InvalidFigure(value)
    check_bound(len(lines_in(value)), MOST_SEGMENTS)


def check_scene(value):
    if not is_scene_form(value):
        raise InvalidScene(value)
    check_bound(len(lines_in_scene(value)), MOST_SEGMENTS)


def check_bound(many, most):
    """Refuse so many of something of which there are at most so many."""
    if many > most:
        raise TooMany(many)


def check_map(value):
    if not is_sound_map(value):
        raise InvalidMap(value)


def check_dart(value, many):
    """Refuse what is no index of a dart, or of an arc, of which there are so many."""
    if not is_index(value, many):
        raise InvalidDart(value)


def check_special(value, chart):
    if not is_index(value, len(chart[0])):
        raise InvalidSpecial(value)


def check_side(value):
    if not is_side(value):
        raise InvalidSide(value)


def check_name(value):
    if not is_name(value):
        raise InvalidName(value)


def check_pick(value):
    if not is_pick_form(value):
        raise InvalidPick(value)


def check_text(value):
    if not isinstance(value, str):
        raise BadText(None)
