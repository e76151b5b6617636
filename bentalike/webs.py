"""The cells of a map and which of them rim which, without checks of what is passed.

Truths are lists that tell of each cell whether it is in something; pieces are lists of indexes of cells.
"""

from bentalike.forms import PAIRED
from bentalike.kinds import is_row, is_whole
from bentalike.links import groups_of
from bentalike.nesting import left_faces
from bentalike.truths import is_joined


class Web:
    """The cells of a map, ascending, with their labels and what they rim."""

    def __init__(self, chart):
        specials, arcs, _, rings, faces = chart
        rows = (
            ("arc", [label for _, _, label in arcs]),
            ("face", [label for label, _, _ in faces]),
            ("ring", [label for label, _, _ in rings]),
            ("special", list(specials)),
        )
        self.cells = tuple([(kind, index) for kind, row in rows for index in range(len(row))])
        self.labels = [label for _, row in rows for label in row]
        self.numbers = {cell: number for number, cell in enumerate(self.cells)}
        # The outer face is in no set, so it stands for what has no bound.
        self.outer = self.numbers["face", 0]
        rims = {cell: {} for cell in self.cells}
        for cell, other in rims_in(chart):
            rims[cell][self.numbers[other]] = True
        self.rims = [list(rims[cell]) for cell in self.cells]

    def has_cell(self, value):
        """Whether value, whatever it is, is one of the cells."""
        # Python finds ("arc", True) where ("arc", 1) is, and cannot look for what holds a list.
        if not is_row(value, 2, 2) or not isinstance(value[0], str) or not is_whole(value[1]):
            return False
        return value in self.numbers

    def are_neighbours(self, cell, other):
        return other in self.rims[cell] or cell in self.rims[other]


def rims_in(chart):
    """The pairs of a cell and another one that it rims, some perhaps more than once."""
    _, arcs, turns, rings, faces = chart
    left = left_faces(chart)
    pairs = []
    for special, turn in enumerate(turns):
        for dart in turn:
            pairs.append((("special", special), ("arc", dart // 2)))
            pairs.append((("special", special), ("face", left[dart])))
    for face, (_, _, spots) in enumerate(faces):
        pairs.extend([(("special", spot), ("face", face)) for spot in spots])
    pairs.extend([(("arc", dart // 2), ("face", left[dart])) for dart in range(2 * len(arcs))])
    for ring, (_, within, around) in enumerate(rings):
        pairs.extend([(("ring", ring), ("face", face)) for face in (within, around)])
    return pairs


def truths_in(web, pick):
    """Which cells are in the pick."""
    word = pick[0]
    if word == "all":
        return [True for _ in web.cells]
    if word == "name":
        return [pick[1] in label for label in web.labels]
    truths = truths_in(web, pick[1])
    if word in PAIRED:
        return joined(word, truths, truths_in(web, pick[2]))
    if word == "not":
        return denied(truths)
    if word == "closure":
        return closed(web, truths)
    if word == "inner":
        return opened(web, truths)
    return rim_of(web, truths)


def joined(word, truths, others):
    """What is in both, in either, or in the first ones less the other ones."""
    return [is_joined(word, first, second) for first, second in zip(truths, others)]


def denied(truths):
    return [not truth for truth in truths]


def closed(web, truths):
    """With each cell that rims one of them."""
    return [truth or any(truths[other] for other in row) for truth, row in zip(truths, web.rims)]


def opened(web, truths):
    """Without each cell that rims one that is not among them."""
    return [truth and all(truths[other] for other in row) for truth, row in zip(truths, web.rims)]


def rim_of(web, truths):
    return joined("less", closed(web, truths), opened(web, truths))


def neighbours_in(web):
    """The pairs of indexes of neighbours."""
    return [(cell, other) for cell, row in enumerate(web.rims) for other in row]


def pieces_of(web, truths):
    """The pieces, in the order of their first cells."""
    pairs = [(cell, other) for cell, other in neighbours_in(web) if truths[cell] and truths[other]]
    pieces = {}
    for cell, first in enumerate(groups_of(len(truths), pairs)):
        if truths[cell]:
            pieces.setdefault(first, []).append(cell)
    return list(pieces.values())


def holes_of(web, truths):
    """The pieces of all other cells that are bounded."""
    return [piece for piece in pieces_of(web, denied(truths)) if web.outer not in piece]


def told_cells(web, piece):
    return tuple([web.cells[cell] for cell in piece])


def innermost_of(web, truths):
    """For each piece, by its first cell, the first cell of the innermost piece that surrounds it, None without any."""
    pairs = neighbours_in(web)
    alike = groups_of(len(truths), [(cell, other) for cell, other in pairs if truths[cell] == truths[other]])
    near = {first: [] for first in alike}
    for cell, other in pairs:
        if truths[cell] != truths[other]:
            near[alike[cell]].append(alike[other])
            near[alike[other]].append(alike[cell])
    # Pieces, and pieces of what is left, lie at one another as a tree, as the plane has no handles: all that
    # is further from the outer face than one of them lies in a hole of it.
    around = {alike[web.outer]: None}
    waiting = [alike[web.outer]]
    while waiting:
        first = waiting.pop()
        for other in near[first]:
            if other not in around:
                around[other] = first
                waiting.append(other)
    return {
        first: None if around[first] is None else around[around[first]]
        for first in sorted(around) if truths[first]
    }
