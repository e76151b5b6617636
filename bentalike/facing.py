"""The faces of a cut: which walks go round what, and what lies in which face."""

from bentalike.cutting import ends_of
from bentalike.links import groups_of, walks_along
from bentalike.ratios import along, crossed, is_less, scaled


def outward_dart(vertices, edges, turn):
    """Of the turns of the least vertex of what hangs together the dart whose walk goes around it all."""
    # From the least vertex nothing goes left, and those that go upward come first in its turns: the last
    # one of them, or of all if none does, has on its left what lies straight left of the vertex.
    low, _ = edges[turn[0] // 2]
    upward = [dart for dart in turn if not is_less(vertices[edges[dart // 2][1]][1], vertices[low][1])]
    return upward[-1] if upward else turn[-1]


def owner_of(edges, groups, walk):
    """The least vertex of what hangs together with the edges of a walk."""
    return groups[edges[walk[0] // 2][0]]


def parted_walks(vertices, edges, turns, groups):
    """The own walks of faces, ascending, and, by the least vertex of what they go around, the other ones."""
    outward = {}
    for vertex, turn in enumerate(turns):
        if turn and groups[vertex] == vertex:
            outward[outward_dart(vertices, edges, turn)] = vertex
    owns = []
    outers = {}
    for walk in walks_along(turns):
        if any(dart in outward for dart in walk):
            outers[owner_of(edges, groups, walk)] = walk
        else:
            owns.append(walk)
    return owns, outers


def goes_round(lines, place):
    """Whether a ray from a scaled place, on none of the lines between scaled points, crosses an odd number of them."""
    odd = False
    for start, goal in lines:
        is_start_above = start[1] * place[2] > place[1] * start[2]
        is_goal_above = goal[1] * place[2] > place[1] * goal[2]
        if is_start_above != is_goal_above:
            # The ray goes straight right: it crosses what goes upward with the place on its left, or
            # downward with the place on its right.
            is_left = along(crossed(start, goal), place) > 0
            odd = odd != (is_left == is_goal_above)
    return odd


def lines_of(triples, edges, walk):
    """The lines, between scaled points, along which a walk goes."""
    ends = [ends_of(edges, dart) for dart in walk]
    return [(triples[tail], triples[head]) for tail, head in ends]


def homes_of(vertices, edges, groups, owns):
    """For the least vertex of each that hangs together the index of the face in which it lies."""
    triples = [scaled(vertex) for vertex in vertices]
    owners = [owner_of(edges, groups, walk) for walk in owns]
    paths = [lines_of(triples, edges, walk) for walk in owns]
    rounds = {}
    for least, group in enumerate(groups):
        if least == group:
            rounds[least] = [
                index for index, path in enumerate(paths)
                if owners[index] != least and goes_round(path, triples[least])
            ]
    return {least: innermost(rounds[least], owners, rounds) for least in rounds}


def innermost(indexes, owners, rounds):
    """The face of that one of these own walks, all round one place, that has the least area; face 0 without any."""
    # They lie in one another: the least one is the one whose own edges have the most walks round them.
    return 1 + max(indexes, key=lambda index: len(rounds[owners[index]]), default=-1)


def faces_of(vertices, edges, turns):
    """The faces, each with its walks and its spots."""
    groups = groups_of(len(vertices), edges)
    owns, outers = parted_walks(vertices, edges, turns, groups)
    homes = homes_of(vertices, edges, groups, owns)
    faces = []
    for face in range(len(owns) + 1):
        inside = [least for least in homes if homes[least] == face]
        own = [owns[face - 1]] if face > 0 else []
        around = sorted([outers[least] for least in inside if turns[least]])
        spots = [least for least in inside if not turns[least]]
        faces.append((tuple(own + around), tuple(spots)))
    return tuple(faces)
