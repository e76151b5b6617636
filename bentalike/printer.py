"""The texts of figures, scenes, picks."""

from bentalike.checks import check_figure, check_pick, check_scene
from bentalike.forms import NEARBY, PAIRED

SUMS = ("either", "less")


def figure_text(figure):
    """The text of the figure."""
    check_figure(figure)
    return text_of(figure)


def scene_text(scene):
    """The text of the scene: a line for each of its sets."""
    check_scene(scene)
    return "".join([f"{name} = {text_of(figure)};\n" for name, figure in scene])


def pick_text(pick):
    """The text of the pick."""
    check_pick(pick)
    return text_of(pick)


def text_of(value):
    """The text of a figure or pick."""
    kind = value[0]
    if kind == "either":
        return f"{text_of(value[1])} + {within(value[2], SUMS)}"
    if kind == "less":
        return f"{text_of(value[1])} - {within(value[2], SUMS)}"
    if kind == "both":
        return f"{within(value[1], SUMS)} & {within(value[2], PAIRED)}"
    if kind == "not" or kind in NEARBY:
        return f"{kind} {within(value[1], PAIRED)}"
    if kind == "all":
        return "all"
    if kind == "name":
        return value[1]
    points = (value[1],) if kind == "spot" else value[1]
    return " ".join([kind] + [point_text(point) for point in points])


def within(value, kinds):
    """The text of a figure or pick, in brackets if it is of one of these kinds."""
    text = text_of(value)
    return f"[{text}]" if value[0] in kinds else text


def point_text(point):
    x, y = point
    return f"({number_text(x)}, {number_text(y)})"


def number_text(number):
    upper, lower = number
    return f"{upper}" if lower == 1 else f"{upper}/{lower}"
