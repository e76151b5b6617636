"""Maps to test with: those of scenes, random ones, and the document's words on what is sound done again."""

from itertools import count

from bentalike.cuts import turns_of
from bentalike.figures import segments_of, spots_of
from bentalike.scenes import drawing_in, labels_in

NONE, A, B, C, AB = (), ("A",), ("B",), ("C",), ("A", "B")
EMPTY = ((), (), (), (), ((NONE, (), ()),))
DISC = ((), (), (), ((A, 1, 0),), ((NONE, (), ()), (A, (), ())))
STICK = ((A, A), ((0, 1, A),), ((0,), (1,)), (), ((NONE, ((0, 1),), ()),))
CUT = ((AB, AB), ((0, 1, A), (0, 1, AB), (0, 1, A)), ((0, 4, 2), (1, 3, 5)), (),
       ((NONE, ((0, 5),), ()), (A, ((1, 2),), ()), (A, ((3, 4),), ())))
EYE = ((A, B), (), ((), ()), ((A, 1, 0),), ((NONE, (), (0,)), (NONE, (), (1,))))
# One special, an arc from it to itself, a spot within.
LOOP = ((A, B), ((0, 0, C),), ((0, 1), ()), (), ((NONE, ((0,),), ()), (A, ((1,),), (1,))))
# Rings in rings: 1 in 0, 2 in 1, beside 3.
RINGS = ((), (), (), ((A, 1, 0), (B, 2, 1), (A, 3, 2), (C, 4, 0)),
         ((NONE, (), ()), (A, (), ()), (B, (), ()), (A, (), ()), (C, (), ())))
# A net in the face of a net: two arcs between specials 0 and 1, a stick and a ring in the face between.
NESTED = ((A, A, B, B), ((0, 1, A), (0, 1, A), (2, 3, B)), ((0, 2), (1, 3), (4,), (5,)), ((C, 2, 1),),
          ((NONE, ((0, 3),), ()), (A, ((1, 2), (4, 5)), ()), (C, (), ())))
ALL = (EMPTY, DISC, STICK, CUT, EYE, LOOP, RINGS, NESTED)


def from_least(row):
    at = row.index(min(row)) if row else 0
    return tuple(row[at:] + row[:at])


def map_of_scene(scene):
    """The map of the plan of a scene."""
    lines = tuple(line for _, figure in scene for line in segments_of(figure))[:24]
    dots = tuple(sorted({dot for _, figure in scene for dot in spots_of(figure)}))[:24]
    vertices, edges, faces = drawing_in(scene)
    labels = labels_in(scene)
    arcs = tuple(edge + (label,) for edge, label in zip(edges, labels[1]))
    turns = tuple(from_least(turn) for turn in turns_of(lines, dots))
    return (labels[0], arcs, turns, (),
            tuple((label, tuple(sorted(walks)), spots) for label, (walks, spots) in zip(labels[2], faces)))


def head_of(arcs, dart):
    return arcs[dart // 2][0 if dart % 2 else 1]


def behind(chart, dart):
    """The dart behind a dart, by the words of the document."""
    opposite = dart + 1 if dart % 2 == 0 else dart - 1
    turn = chart[2][head_of(chart[1], dart)]
    at = turn.index(opposite)
    return turn[at - 1] if at else turn[-1]


def walks_of(chart):
    found = set()
    for first in range(2 * len(chart[1])):
        walk = [first]
        while behind(chart, walk[-1]) != first:
            walk.append(behind(chart, walk[-1]))
        found.add(from_least(walk))
    return sorted(found)


def random_map(chance, specials, arcs, rings):
    """A value that has the form of a map, and whose walks and spots stand in one face each; perhaps not sound."""
    ends = tuple((chance.randrange(specials), chance.randrange(specials), A) for _ in range(arcs)) if specials else ()
    turns = []
    for special in range(specials):
        darts = [dart for dart in range(2 * len(ends)) if ends[dart // 2][dart % 2] == special]
        chance.shuffle(darts)
        turns.append(from_least(darts))
    bare = (tuple(A for _ in range(specials)), ends, tuple(turns))
    walks = walks_of(bare)
    spots = [special for special, turn in enumerate(turns) if not turn]
    many = 1 + rings + max(0, len(walks) - chance.randrange(1, 3))
    told = [([], []) for _ in range(many)]
    for walk in walks:
        told[chance.randrange(many)][0].append(walk)
    for spot in spots:
        told[chance.randrange(many)][1].append(spot)
    circles = tuple((B, chance.randrange(many), chance.randrange(many)) for _ in range(rings))
    return bare + (circles, tuple((NONE, tuple(sorted(row)), tuple(sorted(lone))) for row, lone in told))


def is_sound(chart):
    """Whether what has the form of a map, each walk and spot in one face, is sound, by going through all of it."""
    specials, arcs, turns, rings, faces = chart
    group = list(range(len(specials)))
    for _ in specials:
        for tail, head, _ in arcs:
            group[tail] = group[head] = min(group[tail], group[head])
    links = []
    for face, (_, walks, spots) in enumerate(faces):
        links += [(face, "special", group[head_of(arcs, walk[0])]) for walk in walks]
        links += [(face, "special", spot) for spot in spots]
    if len(links) != len(set(links)):
        return False
    for net in set(group):
        own = [special for special in range(len(specials)) if group[special] == net]
        walks = sum(1 for face, kind, part in links if part == net)
        inner_arcs = sum(1 for tail, _, _ in arcs if tail in own)
        if turns[net] and len(own) + walks != inner_arcs + 2:
            return False
    for ring, (_, within, around) in enumerate(rings):
        if within == around:
            return False
        links += [(within, "ring", ring), (around, "ring", ring)]
    return is_reached_in_one_way(links, len(faces), rings, len(set(group)) + len(rings))


def is_reached_in_one_way(links, faces, rings, parts):
    """Whether going on from face 0, never back by the same link, one comes to each face and part just once."""
    seen = [("face", 0)]
    ways = [(("face", 0), None)]
    for step in count():
        if step == len(ways):
            return len(seen) == faces + parts
        place, came = ways[step]
        for number, (face, kind, part) in enumerate(links):
            ends = (("face", face), (kind, part))
            if number != came and place in ends:
                goal = ends[1 - ends.index(place)]
                if goal in seen or (goal[0] == "ring" and face != rings[goal[1]][2]):
                    return False
                seen.append(goal)
                ways.append((goal, number))
