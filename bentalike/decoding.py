"""Maps read from codes."""

from bentalike.coding import code_of
from bentalike.errors import InvalidCode
from bentalike.forms import NAMES
from bentalike.links import from_least, walks_along
from bentalike.sheets import faces_along
from bentalike.soundness import is_sound_map

DIGITS = ("0", "1", "2", "3", "4", "5", "6", "7", "8", "9")
# As there are at most 3000 of all together, no dart has a number of more signs.
MOST_DIGITS = 4


class NetRows:
    """What a code tells of a net: for each dart, by its number, its special, its opposite, its arc, the face there."""

    def __init__(self, home):
        self.home = home
        self.special = None
        self.tails = []
        self.opposites = []
        self.labels = []
        self.faces = []


class Decoder:
    """Reads a text as a code: what it tells is gathered even where parts stand in a wrong order."""

    def __init__(self, text):
        self.text = text
        self.place = 0
        self.specials = []
        self.spots = {}
        self.rings = []
        self.nets = []
        self.faces = []
        # What is open, from outside in: faces, by their indexes, and nets.
        self.inside = []

    def refuse(self):
        raise InvalidCode(self.text)

    def peek(self):
        """The next sign; nothing at the end."""
        return self.text[self.place:self.place + 1]

    def next_sign(self):
        sign = self.peek()
        self.place += 1
        return sign

    def next_row(self, signs):
        """As many of these signs as stand here."""
        start = self.place
        while self.peek() in signs:
            self.place += 1
        return self.text[start:self.place]

    def next_label(self):
        if self.peek() == "-":
            self.place += 1
            return ()
        names = self.next_row(NAMES)
        if not names:
            self.refuse()
        return tuple(names)

    def next_number(self):
        digits = self.next_row(DIGITS)
        if not 1 <= len(digits) <= MOST_DIGITS:
            self.refuse()
        return int(digits)

    def open_face(self):
        if self.next_sign() != "[":
            self.refuse()
        self.inside.append(len(self.faces))
        self.faces.append(self.next_label())

    def read(self):
        """Go through the whole text."""
        self.open_face()
        while self.inside:
            inside = self.inside[-1]
            if isinstance(inside, NetRows):
                self.read_in_net(inside)
            else:
                self.read_in_face(inside)
        if self.place != len(self.text):
            self.refuse()

    def read_in_face(self, face):
        sign = self.next_sign()
        if sign == "]":
            self.inside.pop()
        elif sign == ".":
            self.spots[len(self.specials)] = face
            self.specials.append(self.next_label())
        elif sign == "o":
            self.rings.append((self.next_label(), len(self.faces), face))
            self.open_face()
        elif sign == "(":
            net = NetRows(face)
            self.nets.append(net)
            self.inside.append(net)
        else:
            self.refuse()

    def read_in_net(self, net):
        sign = self.next_sign()
        if sign == ")":
            self.inside.pop()
        elif sign == "/":
            net.special = len(self.specials)
            self.specials.append(self.next_label())
        elif sign == " " and net.special is not None:
            net.tails.append(net.special)
            net.opposites.append(self.next_number())
            net.labels.append(self.next_label() if self.peek() in NAMES + ("-",) else None)
            net.faces.append(None)
        elif sign == "[" and net.faces and net.faces[-1] is None:
            net.faces[-1] = len(self.faces)
            self.place -= 1
            self.open_face()
        else:
            self.refuse()

    def numbered(self, arcs):
        """For each net the darts of the map by their numbers in it; the arcs are put into what is passed."""
        rows = []
        for net in self.nets:
            darts = {}
            for own, number in enumerate(net.opposites):
                if number == own or number >= len(net.opposites) or net.opposites[number] != own:
                    self.refuse()
                if own < number:
                    darts[own] = 2 * len(arcs)
                    darts[number] = 2 * len(arcs) + 1
                    arcs.append((net.tails[own], net.tails[number], net.labels[own]))
            rows.append(darts)
        return rows

    def told(self):
        """The map that the text tells, perhaps not sound."""
        arcs = []
        rows = self.numbered(arcs)
        turns = [[] for _ in self.specials]
        places = {}
        for index, net in enumerate(self.nets):
            for own, special in enumerate(net.tails):
                dart = rows[index][own]
                turns[special].append(dart)
                places[dart] = own, net
        turns = tuple([from_least(turn) if turn else () for turn in turns])
        left = {walk[0]: face_told(walk, places) for walk in walks_along(turns)}
        faces = faces_along(self.faces, turns, left, self.spots)
        return tuple(self.specials), tuple(arcs), turns, tuple(self.rings), faces


def face_told(walk, places):
    """The face that is told with the dart of the least number of a walk; if none is, that in which the net lies."""
    own, net = min([places[dart] for dart in walk], key=lambda place: place[0])
    return net.home if net.faces[own] is None else net.faces[own]


def decoded(value):
    """A map with this code; what is the code of no map is refused."""
    if not isinstance(value, str):
        raise InvalidCode(value)
    decoder = Decoder(value)
    decoder.read()
    chart = decoder.told()
    # Whatever else a code has to keep to, what it tells of a map is then told of this one.
    if not is_sound_map(chart) or code_of(chart) != value:
        raise InvalidCode(value)
    return chart
