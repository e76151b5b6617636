"""Codes of the faces and parts of a map, from inside out, without checks of what is passed."""

from math import factorial

from bentalike.flipping import turned_over
from bentalike.links import opposite
from bentalike.nesting import Nest, left_faces, tail_of


def label_text(label):
    return "".join(label) if label else "-"


class Coded:
    """A map with the codes of all its faces and parts."""

    def __init__(self, chart):
        self.chart = chart
        self.nest = Nest(chart)
        self.left = left_faces(chart)
        # Where each dart stands in its turn, and the least dart of its walk.
        self.places = {dart: place for turn in chart[2] for place, dart in enumerate(turn)}
        self.walks = {dart: walk[0] for _, walks, _ in chart[4] for walk in walks for dart in walk}
        self.faces = {}
        self.parts = {}
        # For each net its readings from the darts that begin its code.
        self.readings = {}
        for face in reversed(self.nest.faces):
            self.tell_face(face)

    def tell_face(self, face):
        parts = self.nest.lying[face]
        for part in parts:
            self.parts[part] = self.part_text(part)
        texts = sorted([self.parts[part] for part in parts])
        self.faces[face] = "[" + label_text(self.chart[4][face][0]) + "".join(texts) + "]"

    def part_text(self, part):
        specials, _, turns, rings, _ = self.chart
        kind, index = part
        if kind == "ring":
            label, within, _ = rings[index]
            return "o" + label_text(label) + self.faces[within]
        if not turns[index]:
            return "." + label_text(specials[index])
        return self.net_text(part)

    def net_text(self, part):
        """The least of the texts from the darts of the outer walk."""
        text = "(/"
        readings = [Reading(self, dart) for dart in self.nest.outer[part]]
        # All go on special by special, side by side: those that fall behind are told no further. No row
        # of one special is the beginning of another one's, as its last sign stands in no other place.
        while readings[0].goes_on():
            rows = [reading.next_row() for reading in readings]
            least = min(rows)
            readings = [reading for reading, row in zip(readings, rows) if row == least]
            text = text + least
        self.readings[part] = readings
        return text

    def sorted_parts(self, face):
        """The parts that lie in a face, by their codes."""
        return [part for _, part in sorted([(self.parts[part], part) for part in self.nest.lying[face]])]


class Reading:
    """A net read from one dart on: its specials and darts in the order of their numbers."""

    def __init__(self, coded, first):
        self.coded = coded
        # For each special, by its number, the dart from which its darts are counted, and that one's number.
        self.starts = [first]
        self.bases = [0]
        self.numbers = {tail_of(coded.chart[1], first): 0}
        self.many = len(self.turn_of(first))
        # The walks met so far, the outer one from the beginning.
        self.met = {coded.walks[first]: True}
        self.done = 0

    def turn_of(self, dart):
        """The turn of the special that a dart leaves."""
        _, arcs, turns, _, _ = self.coded.chart
        return turns[tail_of(arcs, dart)]

    def goes_on(self):
        return self.done < len(self.starts)

    def darts_from(self, start):
        """The darts of the special that a dart leaves, counterclockwise from this one."""
        turn, place = self.turn_of(start), self.coded.places[start]
        return turn[place:] + turn[:place]

    def number_of(self, dart):
        """The number of a dart; a special that has none yet gets the next one."""
        special = tail_of(self.coded.chart[1], dart)
        turn = self.turn_of(dart)
        if special not in self.numbers:
            self.numbers[special] = len(self.starts)
            self.starts.append(dart)
            self.bases.append(self.many)
            self.many += len(turn)
        index = self.numbers[special]
        places = self.coded.places
        return self.bases[index] + (places[dart] - places[self.starts[index]]) % len(turn)

    def next_row(self):
        """What the text tells of the next special, with the sign behind it."""
        specials, arcs, _, _, _ = self.coded.chart
        start, own = self.starts[self.done], self.bases[self.done]
        row = label_text(specials[tail_of(arcs, start)])
        for dart in self.darts_from(start):
            number = self.number_of(opposite(dart))
            row = f"{row} {number}"
            if number > own:
                row = row + label_text(arcs[dart // 2][2])
            walk = self.coded.walks[dart]
            if walk not in self.met:
                self.met[walk] = True
                row = row + self.coded.faces[self.coded.left[dart]]
            own += 1
        self.done += 1
        return row + ("/" if self.goes_on() else ")")

    def dart_row(self):
        """The darts in the order of their numbers, once all is told."""
        return [dart for start in self.starts for dart in self.darts_from(start)]


def code_of(chart):
    return Coded(chart).faces[0]


def turned_code_of(chart):
    return code_of(turned_over(chart))


def many_onto_itself(coded):
    """How many renamings of a map onto itself keep sides."""
    many = {}
    for face in reversed(coded.nest.faces):
        many[face] = many_of_face(coded, face, many)
    return many[0]


def many_of_face(coded, face, many):
    """The number of a face; `many` tells those of the faces further in."""
    counts = {}
    total = 1
    for part in coded.nest.lying[face]:
        text = coded.parts[part]
        counts[text] = counts.get(text, 0) + 1
        total = total * many_of_part(coded, part, many)
    for text in counts:
        total = total * factorial(counts[text])
    return total


def many_of_part(coded, part, many):
    kind, index = part
    if kind == "ring":
        return many[coded.chart[3][index][1]]
    total = len(coded.readings[part]) if part in coded.readings else 1
    for face, _ in coded.nest.inner[part]:
        total = total * many[face]
    return total
