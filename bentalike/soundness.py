"""Which values are sound maps: first their form, then their darts and walks, then how faces and parts hang together."""

from bentalike.forms import is_label
from bentalike.kinds import is_ascending, is_index, is_row
from bentalike.links import walks_along
from bentalike.nesting import links_of, nets_of, parts_of, reached_from, tail_of

MOST = 3000


def is_sound_map(value):
    """Whether value, whatever it is, is a sound map."""
    return has_form(value) and has_turns(value) and has_walks(value) and are_plane(value) and is_tree(value)


def has_form(value):
    """Whether value is a map but for what hangs on its darts: all of it such, all indexes and labels right."""
    if not is_row(value, 5, 5) or not all(isinstance(row, tuple) for row in value):
        return False
    specials, arcs, turns, rings, faces = value
    if len(specials) + len(arcs) + len(rings) + len(faces) > MOST or not faces or len(turns) != len(specials):
        return False
    counts = len(specials), 2 * len(arcs), len(faces)
    return (
        all(is_label(label) for label in specials)
        and all(is_arc(arc, counts[0]) for arc in arcs)
        and all(is_row_of_indexes(turn, counts[1]) for turn in turns)
        and all(is_ring(ring, counts[2]) for ring in rings)
        and all(is_face(face, counts) for face in faces)
        and faces[0][0] == ()
    )


def is_arc(value, specials):
    return is_row(value, 3, 3) and is_row_of_indexes(value[:2], specials) and is_label(value[2])


def is_ring(value, faces):
    return is_row(value, 3, 3) and is_label(value[0]) and is_row_of_indexes(value[1:], faces)


def is_face(value, counts):
    """Whether value is a face, of so many specials and darts, but for whether its walks are such."""
    if not is_row(value, 3, 3) or not is_label(value[0]) or not isinstance(value[1], tuple):
        return False
    specials, darts, _ = counts
    if not all(is_row_of_indexes(walk, darts) for walk in value[1]) or not is_row_of_indexes(value[2], specials):
        return False
    return is_ascending(value[1]) and is_ascending(value[2])


def is_row_of_indexes(value, many):
    return isinstance(value, tuple) and all(is_index(index, many) for index in value)


def has_turns(chart):
    """Whether each dart is in just one turn, that of the special that it leaves, and turns begin with the least one."""
    _, arcs, turns, _, _ = chart
    found = [dart for turn in turns for dart in turn]
    if sorted(found) != list(range(2 * len(arcs))):
        return False
    for special, turn in enumerate(turns):
        if not all(tail_of(arcs, dart) == special for dart in turn):
            return False
        if turn and turn[0] != min(turn):
            return False
    return True


def has_walks(chart):
    """Whether each walk and each spot is told of just one face."""
    _, _, turns, _, faces = chart
    walks = [walk for _, told, _ in faces for walk in told]
    spots = [spot for _, _, told in faces for spot in told]
    lone = [special for special, turn in enumerate(turns) if not turn]
    return sorted(walks) == list(walks_along(turns)) and sorted(spots) == lone


def are_plane(chart):
    """Whether of each net the specials and walks are together 2 more than the arcs."""
    _, arcs, turns, _, _ = chart
    nets = nets_of(chart)
    excess = {least: 0 for least in nets}
    for least in nets:
        excess[least] += 1
    for walk in walks_along(turns):
        excess[nets[tail_of(arcs, walk[0])]] += 1
    for tail, _, _ in arcs:
        excess[nets[tail]] -= 1
    return all(excess[nets[special]] == 2 for special, turn in enumerate(turns) if turn)


def is_tree(chart):
    """Whether one comes from face 0 to each face and part in just one way, to rings by AROUND."""
    _, _, _, rings, faces = chart
    links = links_of(chart)
    homes, reached = reached_from(links)
    # What hangs together is a tree exactly if its links are one less than what they link: so no two
    # walks of one net, and no two sides of one ring, can be in one face.
    if len(reached) != len(faces) or len(homes) != len(parts_of(chart)) or len(links) != len(faces) + len(homes) - 1:
        return False
    return all(homes["ring", ring] == around for ring, (_, _, around) in enumerate(rings))
