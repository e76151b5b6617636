"""What is needless in a map: kinds of specials, needless arcs, steps, the least map that is left."""

from bentalike.checks import check_dart, check_map, check_scene, check_special
from bentalike.errors import InvalidStep
from bentalike.kinds import is_row, is_whole
from bentalike.nesting import left_faces
from bentalike.planning import least_in
from bentalike.sheets import Sheet, behind_step, least_of, steps_of


def kind_of(chart, special):
    """Whether the special is "even", "straight" or "special"."""
    check_map(chart)
    check_special(special, chart)
    specials, arcs, turns, _, faces = chart
    sheet = Sheet(chart)
    label = specials[special]
    rest = [dart for dart in turns[special] if not sheet.is_needless_arc(dart // 2)]
    if not rest:
        return "even" if all(faces[face][0] == label for face in faces_at(chart, special)) else "special"
    is_line = len(rest) == 2 and all(arcs[dart // 2][2] == label for dart in rest)
    return "straight" if is_line else "special"


def faces_at(chart, special):
    """The faces of the darts that leave a special, or the one that has it as a spot."""
    left = left_faces(chart)
    spotted = [face for face, (_, _, spots) in enumerate(chart[4]) if special in spots]
    return spotted + [left[dart] for dart in chart[2][special]]


def is_needless_arc(chart, arc):
    """Whether the arc has the label of the faces on both its sides."""
    check_map(chart)
    check_dart(arc, len(chart[1]))
    return Sheet(chart).is_needless_arc(arc)


def steps(chart):
    """All steps, ascending."""
    check_map(chart)
    return steps_of(chart)


def check_step(value, chart):
    # Python finds ("arc", True) where ("arc", 1) is.
    if not is_row(value, 2, 2) or not isinstance(value[0], str) or not is_whole(value[1]):
        raise InvalidStep(value)
    if value not in steps_of(chart):
        raise InvalidStep(value)


def taken(chart, step):
    """The map behind the step."""
    check_map(chart)
    check_step(step, chart)
    return behind_step(chart, step)


def is_least(chart):
    """Whether the map has no steps."""
    check_map(chart)
    return not steps_of(chart)


def least(chart):
    """The least map that is left."""
    check_map(chart)
    return least_of(chart)


def least_map(scene):
    """The least map that is left of the map of the scene's plan."""
    check_scene(scene)
    return least_in(scene)
