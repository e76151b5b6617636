"""Figures, scenes, picks: which values are such but for how many segments they have, and what is in them."""

from bentalike.kinds import is_ascending, is_place, is_row

MOST_DEEP = 6
MOST_SEGMENTS = 24
MOST_ON_LINE = 12
NAMES = ("A", "B", "C", "D")
PAIRED = ("both", "either", "less")
NEARBY = ("closure", "inner", "rim")
SIDES = ("keeps", "turns")


def is_figure_form(value, deep=MOST_DEEP):
    """Whether value is a figure, up to so deep, of however many segments."""
    if deep == 0 or not is_row(value, 2, 3) or not isinstance(value[0], str):
        return False
    if value[0] in PAIRED:
        return len(value) == 3 and is_figure_form(value[1], deep - 1) and is_figure_form(value[2], deep - 1)
    if len(value) != 2:
        return False
    if value[0] in NEARBY:
        return is_figure_form(value[1], deep - 1)
    return is_basic(value[0], value[1])


def is_basic(kind, told):
    """Whether they are the two parts of a spot, a path or an area."""
    if kind == "spot":
        return is_place(told)
    if kind == "path":
        return is_line(told, 2)
    return kind == "area" and is_line(told, 3) and told[0] != told[-1]


def is_line(value, least):
    """Whether value is a tuple of from least up to 12 points, neighbours unlike."""
    if not is_row(value, least, MOST_ON_LINE) or not all(is_place(point) for point in value):
        return False
    return all(value[at] != value[at + 1] for at in range(len(value) - 1))


def depth_of(value):
    """How deep a figure or pick is."""
    if value[0] in PAIRED:
        return 1 + max(depth_of(value[1]), depth_of(value[2]))
    if value[0] in NEARBY or value[0] == "not":
        return 1 + depth_of(value[1])
    return 1


def basics_of(figure):
    """Its spots, paths and areas, in the order in which they stand."""
    if figure[0] in PAIRED:
        return basics_of(figure[1]) + basics_of(figure[2])
    if figure[0] in NEARBY:
        return basics_of(figure[1])
    return (figure,)


def lines_of_basic(figure):
    """The segments of a spot, path or area, the closing one of an area last."""
    kind, points = figure
    if kind == "spot":
        return ()
    lines = tuple(zip(points, points[1:]))
    return lines + ((points[-1], points[0]),) if kind == "area" else lines


def lines_in(figure):
    """Its segments, in the order in which they stand."""
    return tuple([line for basic in basics_of(figure) for line in lines_of_basic(basic)])


def dots_in(figure):
    """Its lone points, in the order in which they stand."""
    return tuple([told for kind, told in basics_of(figure) if kind == "spot"])


def is_name(value):
    return isinstance(value, str) and value in NAMES


def is_side(value):
    return isinstance(value, str) and value in SIDES


def is_label(value):
    """Whether value is an ascending tuple of names."""
    return isinstance(value, tuple) and all(is_name(name) for name in value) and is_ascending(value)


def is_entry(value):
    """Whether value is a pair of a name and a figure of however many segments."""
    return is_row(value, 2, 2) and is_name(value[0]) and is_figure_form(value[1])


def is_scene_form(value):
    """Whether value is a scene of however many segments."""
    if not is_row(value, 0, len(NAMES)) or not all(is_entry(entry) for entry in value):
        return False
    return is_ascending([name for name, _ in value])


def lines_in_scene(scene):
    """The segments of all figures."""
    return tuple([line for _, figure in scene for line in lines_in(figure)])


def dots_in_scene(scene):
    """The lone points of all figures."""
    return tuple([dot for _, figure in scene for dot in dots_in(figure)])


def is_pick_form(value, deep=MOST_DEEP):
    """Whether value is a pick, up to so deep."""
    if deep == 0 or not is_row(value, 1, 3) or not isinstance(value[0], str):
        return False
    if value[0] == "all":
        return len(value) == 1
    if value[0] == "name":
        return len(value) == 2 and is_name(value[1])
    if value[0] in NEARBY or value[0] == "not":
        return len(value) == 2 and is_pick_form(value[1], deep - 1)
    if value[0] not in PAIRED or len(value) != 3:
        return False
    return is_pick_form(value[1], deep - 1) and is_pick_form(value[2], deep - 1)
