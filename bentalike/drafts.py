"""The lines of pictures, written and read, without checks of what is passed.

VERTICES are pairs (POINT, LABEL), EDGES triples (I, J, LABEL).
"""

from math import lcm

from bentalike.errors import BadText
from bentalike.forms import is_label
from bentalike.kinds import is_ascending
from bentalike.planning import are_ahead
from bentalike.ratios import fraction
from bentalike.words import DIGITS

MOST_LINES = 1200
LAST = "</svg>"
# What stands between the numbers and labels of a line of each kind.
HEAD_MARKS = ('<svg xmlns="http://www.w3.org/2000/svg" viewBox="', " ", " ", " ", '" data-scale="', '">')
LINE_MARKS = ('<line x1="', '" y1="', '" x2="', '" y2="', '" class="', '"/>')
CIRCLE_MARKS = ('<circle cx="', '" cy="', '" r="1" class="', '"/>')


def written(vertices, edges):
    """The text of the picture."""
    scale = 1
    for (x, y), _ in vertices:
        scale = lcm(scale, x[1], y[1])
    places = [(x[0] * scale // x[1], -y[0] * scale // y[1]) for (x, y), _ in vertices]
    lines = [line_with(HEAD_MARKS, frame_of(places, scale))]
    for low, high, label in edges:
        lines.append(line_with(LINE_MARKS, places[low] + places[high] + (class_text(label),)))
    for place, (_, label) in zip(places, vertices):
        lines.append(line_with(CIRCLE_MARKS, place + (class_text(label),)))
    return "\n".join(lines + [LAST])


def frame_of(places, scale):
    """Left, top, width, height of what is seen, and the scale."""
    xs, ys = [x for x, _ in places], [y for _, y in places]
    left, right = min(xs, default=0), max(xs, default=0)
    top, bottom = min(ys, default=0), max(ys, default=0)
    return left - scale, top - scale, right - left + 2 * scale, bottom - top + 2 * scale, scale


def line_with(marks, told):
    """A line of what is told, the marks between."""
    return "".join([f"{mark}{piece}" for mark, piece in zip(marks, told)]) + marks[-1]


def class_text(label):
    return "".join(label) if label else "none"


def pieces_between(line, marks):
    """What stands between the marks of a line; None if it has other ones."""
    if not line.startswith(marks[0]):
        return None
    rest = line[len(marks[0]):]
    pieces = []
    for mark in marks[1:]:
        piece, found, rest = rest.partition(mark)
        if not found:
            return None
        pieces.append(piece)
    return None if rest else pieces


def is_number_text(text):
    """Whether a text tells a whole number as it is written."""
    digits = text[1:] if text.startswith("-") else text
    if not digits or not all(sign in DIGITS for sign in digits):
        return False
    return digits[0] != "0" or text == "0"


def is_class_text(text):
    return text == "none" or (text != "" and is_label(tuple(text)))


def label_from(text):
    return () if text == "none" else tuple(text)


def head_from(line):
    """The numbers of the first line; None if it has not its form."""
    pieces = pieces_between(line, HEAD_MARKS)
    if pieces is None or not all(is_number_text(piece) for piece in pieces):
        return None
    numbers = [int(piece) for piece in pieces]
    return numbers if numbers[-1] > 0 else None


def labelled_from(line, marks):
    """The numbers and the label of a line with these marks; None if it has not its form."""
    pieces = pieces_between(line, marks)
    if pieces is None or not is_class_text(pieces[-1]) or not all(is_number_text(piece) for piece in pieces[:-1]):
        return None
    return tuple([int(piece) for piece in pieces[:-1]]), label_from(pieces[-1])


class Draft:
    """The lines of a picture as far as they are read."""

    def __init__(self):
        self.scale = None
        self.circles = []
        self.lines = []
        self.is_closed = False

    def does_read(self, line):
        """Read a line; False if it has the form of none that may stand here."""
        if self.is_closed:
            return False
        if self.scale is None:
            numbers = head_from(line)
            self.scale = None if numbers is None else numbers[-1]
            return numbers is not None
        if line == LAST:
            self.is_closed = True
            return True
        return self.does_read_line(line) or self.does_read_circle(line)

    def does_read_line(self, line):
        told = None if self.circles else labelled_from(line, LINE_MARKS)
        if told is not None:
            self.lines.append(told)
        return told is not None

    def does_read_circle(self, line):
        told = labelled_from(line, CIRCLE_MARKS)
        if told is not None:
            self.circles.append(told)
        return told is not None

    def told_vertices(self):
        return tuple([
            ((fraction(x, self.scale), fraction(-y, self.scale)), label) for (x, y), label in self.circles
        ])

    def told_edges(self):
        """The edges; None for the end of one that is no vertex."""
        places = [place for place, _ in self.circles]
        numbers = {place: index for index, place in enumerate(places)}
        return tuple([(numbers.get(ends[:2]), numbers.get(ends[2:]), label) for ends, label in self.lines])


def are_edges(edges):
    """Whether all ends are vertices, and the pairs of them ascend, the lesser one first."""
    pairs = [(low, high) for low, high, _ in edges]
    if any(low is None or high is None for low, high in pairs):
        return False
    return is_ascending(pairs) and all(low < high for low, high in pairs)


def read_back(text):
    """The vertices and edges of a picture; what is none is refused."""
    lines = text.split("\n")
    draft = Draft()
    for index, line in enumerate(lines):
        if not draft.does_read(line):
            raise BadText(index)
    vertices, edges = draft.told_vertices(), draft.told_edges()
    are_told = are_ahead([point for point, _ in vertices]) and are_edges(edges)
    if len(lines) > MOST_LINES or not are_told or written(vertices, edges) != text:
        raise BadText(len(lines))
    return vertices, edges
