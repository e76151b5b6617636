"""Maps: which are sound, their darts, what lies in which face, and the map turned."""

from bentalike.checks import check_dart, check_map
from bentalike.errors import InvalidFace, InvalidPart
from bentalike.flipping import turned_over
from bentalike.kinds import is_index, is_row, is_whole
from bentalike.links import darts_ahead, opposite
from bentalike.nesting import homes_in, left_faces
from bentalike.soundness import is_sound_map


def is_map(value):
    """Whether value, whatever it is, is a sound map."""
    return is_sound_map(value)


def dart_behind(chart, dart):
    """The dart behind a dart on its walk."""
    check_map(chart)
    check_dart(dart, 2 * len(chart[1]))
    return darts_ahead(chart[2])[opposite(dart)]


def left_of(chart, dart):
    """The index of the face on the left of a dart."""
    check_map(chart)
    check_dart(dart, 2 * len(chart[1]))
    return left_faces(chart)[dart]


def turned(chart):
    """The map as it is seen from behind."""
    check_map(chart)
    return turned_over(chart)


def parts_in(chart, face):
    """The parts that lie in a face, ascending, each told by ("ring", R) or ("special", S)."""
    check_map(chart)
    if not is_index(face, len(chart[4])):
        raise InvalidFace(face)
    homes = homes_in(chart)
    return tuple(sorted([part for part in homes if homes[part] == face]))


def face_around(chart, part):
    """The index of the face in which a part lies."""
    check_map(chart)
    homes = homes_in(chart)
    # Python finds ("ring", True) where ("ring", 1) is, and cannot look for what holds a list.
    if not is_row(part, 2, 2) or not isinstance(part[0], str) or not is_whole(part[1]) or part not in homes:
        raise InvalidPart(part)
    return homes[part]
