"""Figures, scenes, picks read from the words of a text."""

from bentalike.errors import BadText
from bentalike.forms import MOST_DEEP, MOST_SEGMENTS, NEARBY, depth_of, is_basic, lines_in
from bentalike.ratios import fraction
from bentalike.words import words_of

# How many brackets and prefixes are open at one place at the most.
MOST_OPEN = 12
JOINTS = {"+": "either", "-": "less", "&": "both"}
# How many points there are at least of each.
LEAST_POINTS = {"spot": 1, "path": 2, "area": 3}
# What goes on in the place of a figure, or a pick, that is wrong.
ANY_FIGURE = ("spot", ((0, 1), (0, 1)))
ANY_PICK = ("all",)


class Reader:
    """A text on the way from word to word.

    The first word that cannot go on is refused at once; the places of all else that is wrong are gathered.
    """

    def __init__(self, text, is_pick):
        self.words = words_of(text)
        self.at = 0
        self.is_pick = is_pick
        self.prefixes = NEARBY + ("not",) if is_pick else NEARBY
        self.opened = 0
        self.faults = []
        # The figures that stand under free names, and those of the NAMEs.
        self.free_figures = {}
        self.named_figures = {}

    def next_kind(self):
        return self.words[self.at][0]

    def next_place(self):
        return self.words[self.at][2]

    def refuse(self):
        raise BadText(self.next_place())

    def take(self, kind):
        """Go on behind a word of this kind, and tell it."""
        if self.next_kind() != kind:
            self.refuse()
        word = self.words[self.at][1]
        self.at += 1
        return word

    def finish(self):
        """Refuse what is left, then the text if anything was wrong in it."""
        self.take("end")
        if self.faults:
            raise BadText(min(self.faults))

    def read_statement(self):
        """Read a statement but for its ;."""
        if self.next_kind() == "let":
            self.take("let")
            name = self.take_new("free", self.free_figures)
            self.take("=")
            self.free_figures[name] = self.read_whole()
        else:
            name = self.take_new("name", self.named_figures)
            self.take("=")
            self.named_figures[name] = self.read_bounded()

    def take_new(self, kind, figures):
        """Go on behind a name, under which no figure should stand yet."""
        place = self.next_place()
        name = self.take(kind)
        if name in figures:
            self.faults.append(place)
        return name

    def read_bounded(self):
        """Read a figure that has, with those of the NAMEs ahead, a bound of segments."""
        place = self.next_place()
        figure = self.read_whole()
        rows = [lines_in(other) for other in self.named_figures.values()]
        if len(lines_in(figure)) + sum([len(row) for row in rows]) <= MOST_SEGMENTS:
            return figure
        self.faults.append(place)
        return ANY_FIGURE

    def read_whole(self):
        """Read a FIGURE, or a PICK."""
        whole = self.read_common()
        while self.next_kind() in ("+", "-"):
            place = self.next_place()
            kind = JOINTS[self.take(self.next_kind())]
            whole = self.deepened((kind, whole, self.read_common()), place)
        return whole

    def read_common(self):
        common = self.read_prefixed()
        while self.next_kind() == "&":
            place = self.next_place()
            kind = JOINTS[self.take("&")]
            common = self.deepened((kind, common, self.read_prefixed()), place)
        return common

    def read_prefixed(self):
        kind = self.next_kind()
        if kind not in self.prefixes:
            return self.read_base()
        place = self.next_place()
        self.take_opening(kind)
        inside = self.read_prefixed()
        self.opened -= 1
        return self.deepened((kind, inside), place)

    def take_opening(self, kind):
        """Go on behind a bracket or prefix, unless too many are open."""
        if self.opened == MOST_OPEN:
            self.refuse()
        self.take(kind)
        self.opened += 1

    def deepened(self, value, place):
        """A figure or pick made by the sign or prefix at this place."""
        if depth_of(value) <= MOST_DEEP:
            return value
        self.faults.append(place)
        return ANY_PICK if self.is_pick else ANY_FIGURE

    def read_base(self):
        if self.next_kind() == "[":
            self.take_opening("[")
            inside = self.read_whole()
            self.take("]")
            self.opened -= 1
            return inside
        return self.read_plain_pick() if self.is_pick else self.read_plain_figure()

    def read_plain_pick(self):
        if self.next_kind() == "all":
            return (self.take("all"),)
        return "name", self.take("name")

    def read_plain_figure(self):
        kind, place = self.next_kind(), self.next_place()
        if kind in LEAST_POINTS:
            return self.read_points(kind)
        name = self.take("free")
        if name not in self.free_figures:
            self.faults.append(place)
        return self.free_figures.get(name, ANY_FIGURE)

    def read_points(self, kind):
        """Read a spot, path or area."""
        place = self.next_place()
        self.take(kind)
        points = [self.read_point() for _ in range(LEAST_POINTS[kind])]
        if kind == "spot":
            return "spot", points[0]
        while self.next_kind() == "(":
            points.append(self.read_point())
        if is_basic(kind, tuple(points)):
            return kind, tuple(points)
        self.faults.append(place)
        return ANY_FIGURE

    def read_point(self):
        self.take("(")
        x = self.read_number()
        self.take(",")
        y = self.read_number()
        self.take(")")
        return x, y

    def read_number(self):
        is_below = self.next_kind() == "-"
        if is_below:
            self.take("-")
        upper = int(self.take("digits"))
        lower = 1
        if self.next_kind() == "/":
            self.take("/")
            lower = self.read_lower()
        return fraction(-upper if is_below else upper, lower)

    def read_lower(self):
        """Read the digits behind /."""
        place = self.next_place()
        lower = int(self.take("digits"))
        if lower == 0:
            self.faults.append(place)
            return 1
        return lower
