"""The parts of a map and in which faces they lie, without checks of what is passed.

A part is told by ("ring", R) or ("special", S), S the least special of a net, or a spot itself.
"""

from bentalike.links import groups_of


def tail_of(arcs, dart):
    """The special that a dart leaves."""
    return arcs[dart // 2][dart & 1]


def nets_of(chart):
    """For each special the least one that hangs together with it."""
    specials, arcs, _, _, _ = chart
    return groups_of(len(specials), [(tail, head) for tail, head, _ in arcs])


def left_faces(chart):
    """For each dart the face on its left."""
    return {dart: face for face, (_, walks, _) in enumerate(chart[4]) for walk in walks for dart in walk}


def parts_of(chart):
    """All parts."""
    _, _, _, rings, _ = chart
    leasts = [special for special, least in enumerate(nets_of(chart)) if special == least]
    return [("ring", ring) for ring in range(len(rings))] + [("special", special) for special in leasts]


def links_of(chart):
    """The pairs of a face and a part that has a walk, a spot, a side in it, one for each of these."""
    _, arcs, _, rings, faces = chart
    nets = nets_of(chart)
    links = []
    for face, (_, walks, spots) in enumerate(faces):
        links.extend([(face, ("special", nets[tail_of(arcs, walk[0])])) for walk in walks])
        links.extend([(face, ("special", spot)) for spot in spots])
    for ring, (_, within, around) in enumerate(rings):
        links.extend([(within, ("ring", ring)), (around, ("ring", ring))])
    return links


def reached_from(links):
    """What is reached from face 0 by links: for each part the face from which one comes to it, and the faces."""
    parts_at = {}
    faces_at = {}
    for face, part in links:
        parts_at.setdefault(face, []).append(part)
        faces_at.setdefault(part, []).append(face)
    homes = {}
    reached = {0: True}
    waiting = [0]
    while waiting:
        face = waiting.pop()
        for part in parts_at.get(face, ()):
            if part not in homes:
                homes[part] = face
                for other in faces_at[part]:
                    if other not in reached:
                        reached[other] = True
                        waiting.append(other)
    return homes, reached


def homes_in(chart):
    """For each part the face in which it lies."""
    homes, _ = reached_from(links_of(chart))
    return homes


class Nest:
    """What lies in which face of a map, from face 0 on."""

    def __init__(self, chart):
        homes, reached = reached_from(links_of(chart))
        # Each face stands behind the one in which the part that goes round it lies.
        self.faces = list(reached)
        self.homes = homes
        self.lying = {face: [] for face in reached}
        for part in homes:
            self.lying[homes[part]].append(part)
        # For each net its outer walk, and the pairs of a face and a walk for the other ones.
        self.outer = {}
        self.inner = {part: [] for part in homes}
        nets = nets_of(chart)
        for face, (_, walks, _) in enumerate(chart[4]):
            for walk in walks:
                part = "special", nets[tail_of(chart[1], walk[0])]
                if homes[part] == face:
                    self.outer[part] = walk
                else:
                    self.inner[part].append((face, walk))
