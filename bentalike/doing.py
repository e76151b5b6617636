"""Deeds and what comes of them, without checks of the scene that is passed."""

from bentalike.forms import (
    MOST_SEGMENTS, NEARBY, PAIRED, is_figure_form, is_name, is_scene_form, lines_in_scene
)
from bentalike.kinds import is_fraction, is_index, is_place, is_row, is_whole
from bentalike.ratios import is_less, plus, times


def is_deed(value):
    """Whether value is a deed but for whether what it tells is there."""
    if not is_row(value, 2, 5) or not isinstance(value[0], str):
        return False
    word, told = value[0], value[1:]
    if word == "lead":
        return len(told) == 1 and is_lead(told[0])
    if not is_name(told[0]):
        return False
    if word == "strike":
        return len(told) == 1
    if word == "exchange":
        return len(told) == 2 and is_name(told[1]) and told[0] != told[1]
    return len(told) > 2 and is_where(told[1]) and is_told_there(word, told[2:])


def is_told_there(word, rest):
    """Whether they are what such a deed tells behind its NAME and WHERE."""
    if word == "put":
        return len(rest) == 1 and is_figure_form(rest[0])
    if word == "shift":
        return len(rest) == 2 and is_fraction(rest[0]) and is_fraction(rest[1])
    return word == "point" and len(rest) == 2 and is_whole(rest[0]) and is_place(rest[1])


def is_lead(value):
    """Whether value is a tuple of six fractions by which the plane stays a plane."""
    if not is_row(value, 6, 6) or not all(is_fraction(number) for number in value):
        return False
    return times(value[0], value[3]) != times(value[1], value[2])


def is_where(value):
    return isinstance(value, tuple) and all(is_whole(step) and step in (1, 2) for step in value)


def scene_behind(scene, value):
    """The scene that comes of value, whatever it is; None if it is no deed that fits."""
    if not is_deed(value):
        return None
    told = entries_behind(scene, value)
    if told is None:
        return None
    behind = tuple([(name, told[name]) for name in sorted(told)])
    if not is_scene_form(behind) or len(lines_in_scene(behind)) > MOST_SEGMENTS:
        return None
    return behind


def entries_behind(scene, deed):
    """The figures by their names that come of a deed; None if what it tells is not there."""
    figures = dict(scene)
    word, name = deed[:2]
    if word == "lead":
        return {each: led_figure(figures[each], deed[1]) for each in figures}
    if word == "exchange":
        return exchanged(figures, name, deed[2])
    if word == "put" and deed[2] == ():
        figures[name] = deed[3]
        return figures
    if name not in figures:
        return None
    if word == "strike":
        figures.pop(name)
        return figures
    part = part_at(figures[name], deed[2])
    part = None if part is None else part_behind(part, deed)
    if part is None:
        return None
    figures[name] = with_part(figures[name], deed[2], part)
    return figures


def exchanged(figures, name, other):
    if name not in figures and other not in figures:
        return None
    names = {name: other, other: name}
    return {names.get(each, each): figures[each] for each in figures}


def many_parts(figure):
    """How many parts a figure is made of."""
    if figure[0] in PAIRED:
        return 2
    return 1 if figure[0] in NEARBY else 0


def part_at(figure, where):
    """The part to which where leads; None if there is none."""
    for step in where:
        if step > many_parts(figure):
            return None
        figure = figure[step]
    return figure


def with_part(figure, where, part):
    """The figure with a part in the place of the one to which where leads."""
    if not where:
        return part
    step = where[0]
    return figure[:step] + (with_part(figure[step], where[1:], part),) + figure[step + 1:]


def part_behind(part, deed):
    """What comes of a part by a deed on it; None if what it tells is not there."""
    if deed[0] == "put":
        return deed[3]
    if deed[0] == "shift":
        return led_figure(part, ((1, 1), (0, 1), (0, 1), (1, 1), deed[3], deed[4]))
    return with_point(part, deed[3], deed[4])


def with_point(part, index, point):
    """A spot, path or area with another point of this index; None if there is none."""
    kind = part[0]
    if kind == "spot":
        return (kind, point) if index == 0 else None
    if many_parts(part) > 0 or not is_index(index, len(part[1])):
        return None
    return kind, part[1][:index] + (point,) + part[1][index + 1:]


def led_figure(figure, numbers):
    """The figure with all its points led by six fractions."""
    kind = figure[0]
    if kind == "spot":
        return kind, led_point(figure[1], numbers)
    if many_parts(figure) > 0:
        return (kind,) + tuple([led_figure(part, numbers) for part in figure[1:]])
    return kind, tuple([led_point(point, numbers) for point in figure[1]])


def led_point(point, numbers):
    a, b, c, d, e, f = numbers
    x, y = point
    return plus(plus(times(a, x), times(b, y)), e), plus(plus(times(c, x), times(d, y)), f)


def work_to(scene, deed, behind):
    """The work of a deed by which the scene behind comes of a scene."""
    if scene == behind:
        return "none"
    if deed[0] == "lead":
        a, b, c, d, _, _ = deed[1]
        return "none" if is_less(times(b, c), times(a, d)) else "turned"
    return "names" if deed[0] == "exchange" else "anew"
