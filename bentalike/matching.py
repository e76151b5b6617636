"""Renamings that keep sides, without checks of the maps that are passed."""

from bentalike.kinds import is_index, is_row
from bentalike.links import opposite
from bentalike.nesting import left_faces, tail_of


def matched(coded, other):
    """A renaming of the map of the first codes to that of the other ones; None if there is none."""
    if coded.faces[0] != other.faces[0]:
        return None
    match = Match(coded, other)
    match.go_on()
    return tuple([in_row(table) for table in (match.specials, match.darts, match.rings, match.faces)])


def in_row(table):
    """What a table tells of 0, 1, 2 and so on."""
    return tuple([table[index] for index in range(len(table))])


class Match:
    """A renaming on the way from outside in: faces of one code come to one another, and what lies in them."""

    def __init__(self, coded, other):
        self.coded = coded
        self.other = other
        self.specials = {}
        self.darts = {}
        self.rings = {}
        self.faces = {0: 0}
        # The faces that are matched, but not yet what lies in them.
        self.waiting = [0]

    def go_on(self):
        while self.waiting:
            face = self.waiting.pop()
            parts = self.coded.sorted_parts(face)
            others = self.other.sorted_parts(self.faces[face])
            for part, other_part in zip(parts, others):
                self.lead(part, other_part)

    def lead(self, part, other_part):
        """Match two parts of one code."""
        kind, index = part
        if kind == "ring":
            self.rings[index] = other_part[1]
            self.lead_face(self.coded.chart[3][index][1], self.other.chart[3][other_part[1]][1])
        elif part in self.coded.readings:
            self.lead_net(part, other_part)
        else:
            self.specials[index] = other_part[1]

    def lead_net(self, part, other_part):
        darts = self.coded.readings[part][0].dart_row()
        for dart, other_dart in zip(darts, self.other.readings[other_part][0].dart_row()):
            self.darts[dart] = other_dart
            self.specials[tail_of(self.coded.chart[1], dart)] = tail_of(self.other.chart[1], other_dart)
        for face, walk in self.coded.nest.inner[part]:
            self.lead_face(face, self.other.left[self.darts[walk[0]]])

    def lead_face(self, face, other_face):
        self.faces[face] = other_face
        self.waiting.append(face)


def does_rename(chart, other, value):
    """Whether value, whatever it is, is a renaming of chart to other that keeps sides."""
    counts = [len(chart[0]), 2 * len(chart[1]), len(chart[3]), len(chart[4])]
    others = [len(other[0]), 2 * len(other[1]), len(other[3]), len(other[4])]
    if counts != others or not is_row(value, 4, 4):
        return False
    if not all(is_exchange(row, many) for row, many in zip(value, counts)):
        return False
    specials, darts, rings, faces = value
    return (
        faces[0] == 0
        and all(label == other[0][specials[index]] for index, label in enumerate(chart[0]))
        and are_darts_kept(chart, other, specials, darts)
        and all(ring_led(ring, faces) == other[3][rings[index]] for index, ring in enumerate(chart[3]))
        and are_faces_kept(chart, other, value)
    )


def is_exchange(value, many):
    """Whether value tells each index below so many once."""
    if not is_row(value, many, many) or not all(is_index(index, many) for index in value):
        return False
    return sorted(value) == list(range(many))


def are_darts_kept(chart, other, specials, darts):
    """Whether labels of arcs, opposite darts, the special that each leaves and the dart that follows it are kept."""
    for dart, goal in enumerate(darts):
        if darts[opposite(dart)] != opposite(goal) or chart[1][dart // 2][2] != other[1][goal // 2][2]:
            return False
    for special, turn in enumerate(chart[2]):
        led = [darts[dart] for dart in turn]
        goals = other[2][specials[special]]
        if not is_round_of(led, goals):
            return False
    return True


def is_round_of(led, goals):
    """Whether the first darts are the other ones as they follow one another, from any of them on."""
    if not led or led[0] not in goals:
        return not led and not goals
    at = goals.index(led[0])
    return tuple(led) == goals[at:] + goals[:at]


def ring_led(ring, faces):
    label, within, around = ring
    return label, faces[within], faces[around]


def are_faces_kept(chart, other, value):
    """Whether labels of faces, the face on the left of each dart, and that of each spot are kept."""
    specials, darts, _, faces = value
    left, other_left = left_faces(chart), left_faces(other)
    if not all(faces[left[dart]] == other_left[goal] for dart, goal in enumerate(darts)):
        return False
    for face, (label, _, spots) in enumerate(chart[4]):
        other_label, _, other_spots = other[4][faces[face]]
        if label != other_label or sorted([specials[spot] for spot in spots]) != list(other_spots):
            return False
    return True
