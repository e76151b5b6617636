"""Maps from which needless things are taken, without checks of what is passed."""

from bentalike.links import from_least, opposite, walks_along
from bentalike.nesting import homes_in, left_faces, tail_of


# The words of steps, ascending.
WORDS = ("arc", "pass", "ring", "spot")


class Sheet:
    """A map that changes: what is taken away keeps no trace, what stays keeps its numbers until it is told."""

    def __init__(self, chart):
        specials, arcs, turns, rings, faces = chart
        darts = range(2 * len(arcs))
        self.specials = dict(enumerate(specials))
        self.turns = {special: list(turn) for special, turn in enumerate(turns)}
        # Once arcs have become one, opposite darts no longer stand side by side.
        self.opposites = {dart: opposite(dart) for dart in darts}
        self.tails = {dart: tail_of(arcs, dart) for dart in darts}
        self.labels = {dart: arcs[dart // 2][2] for dart in darts}
        # For each dart its arc, for each arc its first dart.
        self.arcs = {dart: dart // 2 for dart in darts}
        self.firsts = {arc: 2 * arc for arc in range(len(arcs))}
        self.left = left_faces(chart)
        self.rings = list(rings)
        self.homes = {spot: face for face, (_, _, spots) in enumerate(faces) for spot in spots}
        self.faces = [label for label, _, _ in faces]
        # Leads from a face to one with which it is one by now, at last to the least of them.
        self.merged = list(range(len(faces)))

    def face_of(self, face):
        """The least face with which a face is one by now."""
        while self.merged[face] != face:
            self.merged[face] = self.merged[self.merged[face]]
            face = self.merged[face]
        return face

    def unite(self, first, second):
        low, high = self.face_of(first), self.face_of(second)
        self.merged[max(low, high)] = min(low, high)

    def drop_arc(self, arc):
        first = self.firsts.pop(arc)
        second = self.opposites[first]
        self.unite(self.left[first], self.left[second])
        for dart in (first, second):
            special = self.tails[dart]
            self.turns[special].remove(dart)
            if not self.turns[special]:
                self.homes[special] = self.left[dart]
            self.opposites.pop(dart)

    def drop_pass(self, special):
        """Make one arc of the two at a special, or a ring of the one that is there."""
        label = self.specials.pop(special)
        first, second = self.turns.pop(special)
        if self.arcs[second] < self.arcs[first]:
            first, second = second, first
        self.firsts.pop(self.arcs[second])
        start, goal = self.opposites.pop(first), self.opposites.pop(second)
        if start == second:
            self.rings.append((label, self.left[first], self.left[second]))
            return
        # The arc goes on as the one of the lesser number, from the other end of that one: so numbers
        # are the same whether a map is told between two steps or not.
        self.firsts[self.arcs[first]] = start
        self.arcs[goal] = self.arcs[start]
        self.opposites[start] = goal
        self.opposites[goal] = start

    def drop_ring(self, ring):
        _, within, around = self.rings[ring]
        self.unite(within, around)
        self.rings[ring] = None

    def drop_spot(self, special):
        self.specials.pop(special)
        self.homes.pop(special)

    def is_needless_arc(self, arc):
        first = self.firsts[arc]
        faces = [self.faces[self.left[dart]] for dart in (first, self.opposites[first])]
        return faces == [self.labels[first]] * 2

    def is_needless_ring(self, ring):
        label, within, around = self.rings[ring]
        return self.faces[within] == label and self.faces[around] == label

    def is_needless_spot(self, special):
        return not self.turns[special] and self.specials[special] == self.faces[self.homes[special]]

    def is_pass(self, special):
        turn = self.turns[special]
        return len(turn) == 2 and all(self.labels[dart] == self.specials[special] for dart in turn)

    def numbers_of(self, word):
        """The numbers of what is left of the kind that such steps take, in order."""
        if word == "arc":
            return list(self.firsts)
        if word == "ring":
            return [number for number, ring in enumerate(self.rings) if ring is not None]
        return list(self.specials)

    def is_step(self, step):
        word, number = step
        if word == "arc":
            return self.is_needless_arc(number)
        if word == "pass":
            return self.is_pass(number)
        return self.is_needless_ring(number) if word == "ring" else self.is_needless_spot(number)

    def steps(self):
        """All steps, ascending."""
        return [(word, number) for word in WORDS for number in self.numbers_of(word) if self.is_step((word, number))]

    def take(self, step):
        word, index = step
        if word == "arc":
            self.drop_arc(index)
        elif word == "pass":
            self.drop_pass(index)
        elif word == "ring":
            self.drop_ring(index)
        else:
            self.drop_spot(index)

    def told(self):
        """The map that is left: what stays is numbered in the order of its numbers."""
        specials = list(self.specials)
        numbers = {special: number for number, special in enumerate(specials)}
        firsts = list(self.firsts.values())
        darts = {}
        for number, first in enumerate(firsts):
            darts[first] = 2 * number
            darts[self.opposites[first]] = 2 * number + 1
        arcs = [
            (numbers[self.tails[first]], numbers[self.tails[self.opposites[first]]], self.labels[first])
            for first in firsts
        ]
        turns = [tuple([darts[dart] for dart in self.turns[special]]) for special in specials]
        turns = tuple([from_least(turn) if turn else () for turn in turns])
        heads = [face for face, head in enumerate(self.merged) if face == head]
        faces = {face: number for number, face in enumerate(heads)}
        left = {darts[dart]: faces[self.face_of(self.left[dart])] for dart in darts}
        spots = {numbers[spot]: faces[self.face_of(self.homes[spot])] for spot in sorted(self.homes)}
        rings = [
            (ring[0], faces[self.face_of(ring[1])], faces[self.face_of(ring[2])])
            for ring in self.rings if ring is not None
        ]
        labels = [self.faces[face] for face in heads]
        lines = tuple([self.specials[special] for special in specials]), tuple(arcs), turns
        return oriented(lines + (tuple(rings), faces_along(labels, turns, left, spots)))


def faces_along(labels, turns, left, spots):
    """Faces of these labels: `left` tells the face on the left of each dart, `spots` that of each spot."""
    walks = [[] for _ in labels]
    for walk in walks_along(turns):
        walks[left[walk[0]]].append(walk)
    lone = [[] for _ in labels]
    for spot in spots:
        lone[spots[spot]].append(spot)
    return tuple([(label, tuple(rows), tuple(row)) for label, rows, row in zip(labels, walks, lone)])


def oriented(chart):
    """The map with the two faces of each ring told as WITHIN and AROUND; passed in either order."""
    specials, arcs, turns, rings, faces = chart
    homes = homes_in(chart)
    told = []
    for ring, (label, first, second) in enumerate(rings):
        around = homes["ring", ring]
        told.append((label, second if first == around else first, around))
    return specials, arcs, turns, tuple(told), faces


def steps_of(chart):
    """All steps, ascending."""
    return tuple(Sheet(chart).steps())


def behind_step(chart, step):
    """The map behind one step."""
    sheet = Sheet(chart)
    sheet.take(step)
    return sheet.told()


def walked(chart, steps):
    """The map to which steps lead, each in the numbers of the map that the ones ahead leave; None if one is none."""
    sheet = Sheet(chart)
    for word, index in steps:
        numbers = sheet.numbers_of(word)
        if index >= len(numbers) or not sheet.is_step((word, numbers[index])):
            return None
        sheet.take((word, numbers[index]))
    return sheet.told()


def taken_down(chart):
    """Steps by which a map comes to a least one, each in the numbers of what is left ahead of it, and that one."""
    sheet = Sheet(chart)
    found = []
    # No step makes an arc or a ring needless that was not, and passes make no spots: so each kind of step
    # is gone through once, from the last one on, as a step changes no number ahead of its own.
    for word in ("arc", "ring", "spot", "pass"):
        for index, number in list(enumerate(sheet.numbers_of(word)))[::-1]:
            if sheet.is_step((word, number)):
                sheet.take((word, number))
                found.append((word, index))
    return tuple(found), sheet.told()


def least_of(chart):
    """The least map that is left of a map."""
    _, left = taken_down(chart)
    return left
