"""Maps: which are sound, their darts, what lies in which face, and the map turned."""

from bentalike.checks import check_map
from bentalike.errors import InvalidDart, InvalidFace, InvalidPart
from bentalike.kinds import is_index, is_row, is_whole
from bentalike.links import darts_ahead, from_least, opposite
from bentalike.nesting import homes_in, left_faces
from bentalike.soundness import is_sound_map


def is_map(value):
    """Whether value, whatever it is, is a sound map."""
    return is_sound_map(value)


def check_dart(value, chart):
    if not is_index(value, 2 * len(chart[1])):
        raise InvalidDart(value)


def dart_behind(chart, dart):
    """The dart behind a dart on its walk."""
    check_map(chart)
    check_dart(dart, chart)
    return darts_ahead(chart[2])[opposite(dart)]


def left_of(chart, dart):
    """The index of the face on the left of a dart."""
    check_map(chart)
    check_dart(dart, chart)
    return left_faces(chart)[dart]


def turned(chart):
    """The map as it is seen from behind."""
    check_map(chart)
    specials, arcs, turns, rings, faces = chart
    other_turns = tuple([from_least(list(turn[::-1])) if turn else () for turn in turns])
    other_faces = tuple([(label, turned_walks(walks), spots) for label, walks, spots in faces])
    return specials, arcs, other_turns, rings, other_faces


def turned_walks(walks):
    """The walks of a face when seen from behind: those of the opposites, the other way round."""
    return tuple(sorted([from_least([opposite(dart) for dart in walk[::-1]]) for walk in walks]))


def parts_in(chart, face):
    """The parts that lie in a face, ascending, each told by ("ring", R) or ("special", S)."""
    check_map(chart)
    if not is_index(face, len(chart[4])):
        raise InvalidFace(face)
    homes = homes_in(chart)
    return tuple(sorted([part for part in homes if homes[part] == face]))


def face_around(chart, part):
    """The index of the face in which a part lies."""
    check_map(chart)
    homes = homes_in(chart)
    # Python finds ("ring", True) where ("ring", 1) is, and cannot look for what holds a list.
    if not is_row(part, 2, 2) or not isinstance(part[0], str) or not is_whole(part[1]) or part not in homes:
        raise InvalidPart(part)
    return homes[part]
