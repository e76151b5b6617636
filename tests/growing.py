"""Sound maps of all kinds, grown part by part, and maps numbered anew."""

import random

import charts
from charts import A, B, NONE

LABELS = (NONE, A, B)


class Growing:
    """A map that grows by spots, rings and arcs, put into any of its faces."""

    def __init__(self, chance, labels=LABELS):
        self.chance = chance
        self.labels = labels
        self.specials, self.turns, self.arcs, self.rings = [], [], [], []
        self.left, self.homes = {}, {}
        self.faces = [NONE]

    def label(self):
        return self.chance.choice(self.labels)

    def face(self):
        return self.chance.randrange(len(self.faces))

    def new_special(self):
        self.specials.append(self.label())
        self.turns.append([])
        return len(self.specials) - 1

    def add_spot(self):
        self.homes[self.new_special()] = self.face()

    def add_ring(self):
        face = self.face()
        other = self.split(face, self.walks())
        self.rings.append([self.label(), face, other])

    def split(self, face, walks):
        """Make two faces of one: each of these walks, each spot and side of a ring in it comes to any of both."""
        self.faces.append(self.label())
        other = len(self.faces) - 1
        for walk in walks:
            if self.left[walk[0]] == face and self.chance.random() < 0.5:
                self.left.update({dart: other for dart in walk})
        for spot in self.homes:
            if self.homes[spot] == face and self.chance.random() < 0.5:
                self.homes[spot] = other
        for ring in self.rings:
            for side in (1, 2):
                if ring[side] == face and self.chance.random() < 0.5:
                    ring[side] = other
        return other

    def bare(self):
        return tuple(self.specials), tuple(self.arcs), tuple(charts.from_least(turn) for turn in self.turns)

    def walks(self):
        return charts.walks_of(self.bare())

    def corners(self, face):
        """The pairs of a special and where in its turn a dart can be put so that it goes into the face."""
        spots = [(spot, 0) for spot in self.homes if self.homes[spot] == face]
        return spots + [(special, at + 1) for special, turn in enumerate(self.turns)
                        for at, dart in enumerate(turn) if self.left[dart] == face]

    def add_arc(self, is_whisker):
        face = self.face()
        if is_whisker:
            self.homes[self.new_special()] = face
        corners = self.corners(face)
        if not corners:
            return
        start = self.chance.choice(corners)
        goal = (len(self.specials) - 1, 0) if is_whisker else self.chance.choice(corners)
        darts = 2 * len(self.arcs), 2 * len(self.arcs) + 1
        self.arcs.append((start[0], goal[0], self.label()))
        ends = sorted([(start[1], start[0], darts[0]), (goal[1], goal[0], darts[1])])
        for at, special, dart in ends[::-1]:
            self.turns[special].insert(at, dart)
            self.homes.pop(special, None)
        self.lead(face, darts)

    def lead(self, face, darts):
        """The faces on the left of two new opposite darts in a face, which they may have cut in two."""
        walks = self.walks()
        own, other = [next(walk for walk in walks if dart in walk) for dart in darts]
        rest = [walk for walk in walks if walk not in (own, other)]
        self.left.update({dart: face for dart in own})
        if own != other:
            new = self.split(face, rest)
            self.left.update({dart: face for dart in own})
            self.left.update({dart: new for dart in other})

    def grow(self):
        kind = self.chance.choice(("spot", "ring", "whisker", "arc", "arc", "arc"))
        if kind == "spot":
            self.add_spot()
        elif kind == "ring":
            self.add_ring()
        else:
            self.add_arc(kind == "whisker")

    def told(self):
        walks = self.walks()
        faces = []
        for face, label in enumerate(self.faces):
            spots = tuple(sorted(spot for spot in self.homes if self.homes[spot] == face))
            faces.append((label, tuple(walk for walk in walks if self.left[walk[0]] == face), spots))
        return turned_out(self.bare() + (tuple(map(tuple, self.rings)), tuple(faces)))


def turned_out(chart):
    """The map with each ring's faces in order, whichever way they are told."""
    for at in range(len(chart[3])):
        ring = chart[3][at]
        other = chart[3][:at] + (((ring[0], ring[2], ring[1])),) + chart[3][at + 1:]
        seen = {0}
        while True:
            more = {pair[1 - end] for pair in face_pairs(chart, at) for end in (0, 1) if pair[end] in seen} - seen
            if not more:
                break
            seen |= more
        if ring[2] not in seen:
            chart = chart[:3] + (other,) + chart[4:]
    return chart


def face_pairs(chart, without):
    """The pairs of faces on two sides of an arc, at one net, or of a ring but for one."""
    left = {dart: face for face, (_, walks, _) in enumerate(chart[4]) for walk in walks for dart in walk}
    pairs = [(left[dart], left[dart ^ 1]) for dart in left]
    return pairs + [ring[1:] for at, ring in enumerate(chart[3]) if at != without]


def grown(chance, many, labels=LABELS):
    """A map grown in so many steps."""
    growing = Growing(chance, labels)
    for _ in range(many):
        growing.grow()
    return growing.told()


def shuffled(chance, many):
    row = list(range(many))
    chance.shuffle(row)
    return row


def renamed(chart, renaming):
    """The map with these numbers in the place of its own."""
    specials, darts, rings, faces = renaming
    arcs = [None] * len(chart[1])
    for dart in range(len(darts)):
        if darts[dart] % 2 == 0:
            tail, head, label = chart[1][dart // 2]
            ends = (tail, head) if dart % 2 == 0 else (head, tail)
            arcs[darts[dart] // 2] = specials[ends[0]], specials[ends[1]], label
    turns = placed([charts.from_least([darts[dart] for dart in turn]) for turn in chart[2]], specials)
    told = [(label, tuple(sorted(charts.from_least([darts[dart] for dart in walk]) for walk in walks)),
             tuple(sorted(specials[spot] for spot in spots))) for label, walks, spots in chart[4]]
    circles = [(label, faces[within], faces[around]) for label, within, around in chart[3]]
    return placed(chart[0], specials), tuple(arcs), turns, placed(circles, rings), placed(told, faces)


def placed(row, numbers):
    out = [None] * len(row)
    for number, value in zip(numbers, row):
        out[number] = value
    return tuple(out)


def any_numbers(chance, chart):
    """A tuple of four as a renaming is, to numbers in any order."""
    arcs = shuffled(chance, len(chart[1]))
    darts = []
    for arc in arcs:
        flip = chance.randrange(2)
        darts += [2 * arc + flip, 2 * arc + 1 - flip]
    faces = [0] + [face + 1 for face in shuffled(chance, len(chart[4]) - 1)]
    return tuple(map(tuple, (shuffled(chance, len(chart[0])), darts, shuffled(chance, len(chart[3])), faces)))


def mirrored(chart):
    """The map seen from behind, by the words of the document."""
    turns = tuple(charts.from_least(turn[::-1]) for turn in chart[2])
    walks = charts.walks_of(chart[:2] + (turns,))
    faces = []
    for label, own, spots in chart[4]:
        darts = {dart ^ 1 for walk in own for dart in walk}
        faces.append((label, tuple(walk for walk in walks if walk[0] in darts), spots))
    return chart[:2] + (turns, chart[3], tuple(faces))


def some_maps(seed, many, size, labels=LABELS):
    """So many maps, grown in up to so many steps."""
    chance = random.Random(seed)
    return [grown(chance, chance.randrange(size + 1), labels) for _ in range(many)]
