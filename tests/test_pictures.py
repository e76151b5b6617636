import random
import re
import unittest
from fractions import Fraction
from math import lcm

from helpers import at, failure, number
from test_plans import scenes
from bentalike import errors
from bentalike.pictures import letters, picture, read_picture
from bentalike.reader import read_scene
from bentalike.scenes import drawing_in, is_scene, label_at, labels_in

HALL = ("area", (at(0, 0), at(4, 0), at(4, 4), at(0, 4)))
HOME = (("A", HALL), ("B", ("either", ("rim", HALL), ("spot", at(2, 2)))))
SIGNS = ".123456789abcdef"
NUMBER = "(0|-?[1-9][0-9]*)"
LABEL = "(none|(?=[ABCD])A?B?C?D?)"
HEAD = re.compile(r'<svg xmlns="http://www\.w3\.org/2000/svg" '
                  f'viewBox="{NUMBER} {NUMBER} {NUMBER} {NUMBER}" data-scale="([1-9][0-9]*)">')
LINE = re.compile(f'<line x1="{NUMBER}" y1="{NUMBER}" x2="{NUMBER}" y2="{NUMBER}" class="{LABEL}"/>')
CIRCLE = re.compile(f'<circle cx="{NUMBER}" cy="{NUMBER}" r="1" class="{LABEL}"/>')
EMPTY = '<svg xmlns="http://www.w3.org/2000/svg" viewBox="-1 -1 2 2" data-scale="1">\n</svg>'


def word(label):
    return "".join(label) or "none"


def written(vertices, edges):
    """The picture of vertices and edges, by Fractions."""
    points = [tuple(Fraction(*part) for part in point) for point, _ in vertices]
    scale = lcm(*[part.denominator for point in points for part in point])
    places = [(scale * x, -scale * y) for x, y in points]
    xs, ys = [x for x, _ in places] or [0], [y for _, y in places] or [0]
    rows = [f'<svg xmlns="http://www.w3.org/2000/svg" viewBox="{min(xs) - scale} {min(ys) - scale} '
            f'{max(xs) - min(xs) + 2 * scale} {max(ys) - min(ys) + 2 * scale}" data-scale="{scale}">']
    for low, high, label in edges:
        (x, y), (other_x, other_y) = places[low], places[high]
        rows.append(f'<line x1="{x}" y1="{y}" x2="{other_x}" y2="{other_y}" class="{word(label)}"/>')
    for (x, y), (_, label) in zip(places, vertices):
        rows.append(f'<circle cx="{x}" cy="{y}" r="1" class="{word(label)}"/>')
    return "\n".join(rows + ["</svg>"])


def told_by(scene):
    """The vertices and edges of a scene with their labels."""
    vertices, edges, _ = drawing_in(scene)
    labels = labels_in(scene)
    return tuple(zip(vertices, labels[0])), tuple(edge + (label,) for edge, label in zip(edges, labels[1]))


def wrong_line(text):
    """The line that is told with BadText for a text; None for a picture. By forms, then by writing once more."""
    lines = text.split("\n")
    stage = 0
    for index, line in enumerate(lines):
        forms = {0: {HEAD: 1}, 1: {LINE: 1, CIRCLE: 2}, 2: {CIRCLE: 2}, 3: {}}[stage]
        goals = [goal for form, goal in forms.items() if form.fullmatch(line)]
        if stage in (1, 2) and line == "</svg>":
            goals = [3]
        if not goals:
            return index
        stage = goals[0]
    scale = int(HEAD.fullmatch(lines[0]).groups()[-1])
    circles = [CIRCLE.fullmatch(line).groups() for line in lines if CIRCLE.fullmatch(line)]
    ends = [LINE.fullmatch(line).groups() for line in lines if LINE.fullmatch(line)]
    places = [told[:2] for told in circles]
    points = [(Fraction(int(x), scale), Fraction(-int(y), scale)) for x, y in places]
    if points != sorted(set(points)) or any(told[at:at + 2] not in places for told in ends for at in (0, 2)):
        return len(lines)
    edges = [(places.index(told[:2]), places.index(told[2:4]), told[4].replace("none", "")) for told in ends]
    pairs = [edge[:2] for edge in edges]
    if pairs != sorted(set(pairs)) or any(low >= high for low, high in pairs) or len(lines) > 1200:
        return len(lines)
    vertices = [(tuple(map(number, point)), told[2].replace("none", "")) for point, told in zip(points, circles)]
    return None if written(vertices, edges) == text else len(lines)


def place_in_row(low, high, index, count):
    return low + (high - low) * Fraction(2 * index + 1, 2 * count)


def slow_letters(scene, low, high, count):
    (x, y), (other_x, other_y) = [tuple(Fraction(*part) for part in point) for point in (low, high)]
    rows = []
    for row in range(count):
        told = ""
        for column in range(count):
            place = at(place_in_row(x, other_x, column, count), place_in_row(other_y, y, row, count))
            told += SIGNS[sum({"A": 1, "B": 2, "C": 4, "D": 8}[name] for name in label_at(scene, place))]
        rows.append(told)
    return tuple(rows)


class Letters(unittest.TestCase):

    def test_each_label_has_its_sign(self):
        for many in range(16):
            names = [name for bit, name in enumerate("ABCD") if many >> bit & 1]
            scene = tuple((name, ("spot", at(0, 0))) for name in names)
            self.assertEqual(letters(scene, at(-1, -1), at(1, 1), 1), (SIGNS[many],))
            self.assertEqual(letters(scene, at(0, 0), at(1, 1), 1), (".",))

    def test_of_1_and_of_24_rows(self):
        self.assertEqual(letters(HOME, at(0, 0), at(2, 2), 1), ("1",))
        rows = letters(HOME, at(-10, -10), at(14, 14), 24)
        self.assertEqual({len(rows)} | {len(row) for row in rows}, {24})
        self.assertEqual(rows, ("." * 24,) * 10 + ("." * 10 + "1111" + "." * 10,) * 4 + ("." * 24,) * 10)

    def test_rows_go_down_and_columns_to_the_right(self):
        scene = read_scene("A = spot (0, 1); B = spot (1, 1); C = spot (0, 0); D = spot (1, 0);")
        half = Fraction(1, 2)
        self.assertEqual(letters(scene, at(-half, -half), at(3 * half, 3 * half), 2), ("12", "48"))

    def test_middles_on_rims_spots_corners_outside(self):
        rows = letters(HOME, at(-1, -1), at(5, 5), 6)
        self.assertEqual(rows, ("......", ".1111.", ".1111.", ".1111.", ".1111.", "......"))
        half = Fraction(1, 2)
        rows = letters(HOME, at(-1 - half, -1 - half), at(5 + half, 5 + half), 7)
        self.assertEqual(rows, (".......", ".33333.", ".31113.", ".31313.", ".31113.", ".33333.", "......."))
        self.assertEqual(letters(HOME, at(100, 100), at(101, 101), 2), ("..", ".."))

    def test_windows_that_are_no_squares(self):
        self.assertEqual(letters(HOME, at(1, -1), at(2, 11), 3), ("...", "...", "111"))
        self.assertEqual(letters(HOME, at(1, -4), at(2, 8), 3), ("...", "111", "..."))
        self.assertEqual(letters(HOME, at(-4, 1), at(8, 2), 3), (".1.", ".1.", ".1."))

    def test_of_nothing(self):
        self.assertEqual(letters((), at(0, 0), at(1, 1), 24), ("." * 24,) * 24)

    def test_by_labels_of_places(self):
        chance = random.Random(341)
        for scene in scenes(342, 40):
            low = [Fraction(chance.randrange(-4, 4), chance.choice((1, 1, 2, 3))) for _ in range(2)]
            high = [start + Fraction(chance.randrange(1, 12), chance.choice((1, 1, 2))) for start in low]
            count = chance.randrange(1, 7)
            told = letters(scene, at(*low), at(*high), count)
            self.assertEqual(told, slow_letters(scene, at(*low), at(*high), count))

    def test_a_high_that_is_not_above_the_low(self):
        for high in (at(0, 5), at(5, 0), at(0, 0), at(-1, 5), at(5, -1), at(-1, -1), at(Fraction(-1, 3), 5)):
            error = failure(letters, HOME, at(0, 0), high, 3)
            self.assertIs(error.__class__, errors.InvalidPoint)
            self.assertIs(error.given, high)
            self.assertIs(failure(letters, HOME, at(0, 0), high, 0).__class__, errors.InvalidPoint)

    def test_0_and_25_rows(self):
        for count in (0, 25, -1, True, "3", None):
            error = failure(letters, HOME, at(0, 0), at(1, 1), count)
            self.assertEqual((error.__class__, error.given), (errors.InvalidWindow, count))


class Pictures(unittest.TestCase):

    def test_of_nothing(self):
        self.assertEqual(picture(()), EMPTY)
        self.assertEqual(read_picture(EMPTY), ((), ()))

    def test_by_hand(self):
        scene = read_scene("A = path (0, 0) (1/2, -2/3); C = spot (0, 0) + spot (-1, 5);")
        self.assertEqual(picture(scene).split("\n"), [
            '<svg xmlns="http://www.w3.org/2000/svg" viewBox="-12 -36 21 46" data-scale="6">',
            '<line x1="0" y1="0" x2="3" y2="4" class="A"/>', '<circle cx="-6" cy="-30" r="1" class="C"/>',
            '<circle cx="0" cy="0" r="1" class="AC"/>', '<circle cx="3" cy="4" r="1" class="A"/>', "</svg>"])
        self.assertEqual(read_picture(picture(scene)), (
            ((at(-1, 5), ("C",)), (at(0, 0), ("A", "C")), (at(Fraction(1, 2), Fraction(-2, 3)), ("A",))),
            ((1, 2, ("A",)),)))

    def test_of_spots_alone(self):
        self.assertEqual(picture(read_scene("B = spot (-3, 7);")).split("\n"), [
            '<svg xmlns="http://www.w3.org/2000/svg" viewBox="-4 -8 2 2" data-scale="1">',
            '<circle cx="-3" cy="-7" r="1" class="B"/>', "</svg>"])

    def test_what_is_in_no_set_is_told_as_none(self):
        scene = read_scene("A = inner area (0, 0) (1, 0) (0, 1);")
        self.assertEqual(picture(scene).count('class="none"'), 6)
        self.assertEqual(read_picture(picture(scene)), told_by(scene))

    def test_of_random_scenes(self):
        for scene in scenes(343, 120):
            text = picture(scene)
            self.assertEqual(text, written(*told_by(scene)))
            self.assertEqual(read_picture(text), told_by(scene))
            self.assertIsNone(wrong_line(text))

    def test_of_great_numbers(self):
        most = 10 ** 400 - 1
        scene = (("A", ("path", (((1, most), (most, 1)), ((-most, most - 1), (0, 1))))),)
        self.assertIs(is_scene(scene), True)
        self.assertEqual(picture(scene), written(*told_by(scene)))
        self.assertEqual(read_picture(picture(scene)), told_by(scene))

    def test_of_as_many_segments_as_may_be(self):
        def zigzag(start):
            return ("path", tuple(at(start + k * k, 20 * (k % 2) + start) for k in range(12)))
        scene = (("A", zigzag(0)), ("B", zigzag(1)), ("D", ("path", (at(0, 10), at(200, 11), at(0, 12)))))
        self.assertEqual(picture(scene), written(*told_by(scene)))
        self.assertEqual(read_picture(picture(scene)), told_by(scene))


class ReadBack(unittest.TestCase):

    def check_wrong(self, text, line):
        with self.subTest(text=text[-300:]):
            error = failure(read_picture, text)
            self.assertIs(error.__class__, errors.BadText)
            self.assertEqual(error.spot, line)
            self.assertEqual(wrong_line(text), line)

    def changed(self, index, *lines):
        """The picture of HOME with other lines in the place of one."""
        rows = picture(HOME).split("\n")
        rows[index:index + 1] = lines
        return "\n".join(rows)

    def test_lines_of_home(self):
        self.assertEqual([line.split(" ")[0] for line in picture(HOME).split("\n")],
                         ["<svg"] + ["<line"] * 4 + ["<circle"] * 5 + ["</svg>"])

    def test_lines_left_out(self):
        for index in (0, 5, 6, 8, 9, 10):
            self.check_wrong(self.changed(index), {0: 0}.get(index, 10))
        # Without an edge, or the spot, it is the picture of other vertices and edges.
        vertices, edges = told_by(HOME)
        for index in range(4):
            self.assertEqual(read_picture(self.changed(1 + index)), (vertices, edges[:index] + edges[index + 1:]))
        self.assertEqual(len(read_picture(self.changed(7))[0]), 4)

    def test_lines_doubled(self):
        rows = picture(HOME).split("\n")
        for index in range(11):
            self.check_wrong(self.changed(index, rows[index], rows[index]), {0: 1, 10: 11}.get(index, 12))

    def test_lines_in_another_order(self):
        rows = picture(HOME).split("\n")
        for index in range(10):
            other = rows[:index] + [rows[index + 1], rows[index]] + rows[index + 2:]
            self.check_wrong("\n".join(other), {0: 0, 4: 5, 9: 10}.get(index, 11))

    def test_something_behind_the_end(self):
        text = picture(HOME)
        for more in ("\n", "\n ", "\n</svg>", "\n<circle cx=\"2\" cy=\"-2\" r=\"1\" class=\"A\"/>", "\n\n"):
            self.check_wrong(text + more, 11)
        for more in (" ", "\r", "<", "\t"):
            self.check_wrong(text + more, 10)

    def test_something_ahead_and_nothing_at_all(self):
        for text in ("\n" + picture(HOME), " " + picture(HOME), "", " ", "\n", "</svg>", picture(HOME)[1:], "svg"):
            self.check_wrong(text, 0)
        self.check_wrong(picture(HOME).split("\n")[0], 1)
        self.check_wrong("\n".join(picture(HOME).split("\n")[:-1]), 10)
        self.check_wrong(EMPTY.replace("\n", "\r\n"), 0)
        self.check_wrong(EMPTY.replace("\n", "\n\n"), 1)

    def test_numbers_that_are_not_written_so(self):
        line = '<line x1="0" y1="0" x2="0" y2="-4" class="AB"/>'
        self.assertEqual(picture(HOME).split("\n")[1], line)
        for wrong in ("00", "-0", "+0", "", " 0", "0 ", "0.0", "a", "-", "--4", "\u0660", "0x0", "1_0", "-04", "0-"):
            self.check_wrong(self.changed(1, line.replace('x1="0"', f'x1="{wrong}"')), 1)
            self.check_wrong(self.changed(1, line.replace('"-4"', f'"{wrong}"')), 1)
            self.check_wrong(self.changed(7, f'<circle cx="{wrong}" cy="-2" r="1" class="AB"/>'), 7)
            self.check_wrong(self.changed(7, f'<circle cx="2" cy="{wrong}" r="1" class="AB"/>'), 7)
            self.check_wrong(picture(HOME).replace('viewBox="-1', f'viewBox="{wrong}'), 0)
            self.check_wrong(picture(HOME).replace('data-scale="1"', f'data-scale="{wrong}"'), 0)

    def test_a_scale_that_is_0_or_below_or_another_one(self):
        for scale in ("0", "-1", "-2", "01"):
            self.check_wrong(picture(HOME).replace('data-scale="1"', f'data-scale="{scale}"'), 0)
        for scale in ("2", "3", "10"):
            self.check_wrong(picture(HOME).replace('data-scale="1"', f'data-scale="{scale}"'), 11)

    def test_a_scale_that_is_not_the_least(self):
        vertices, edges = told_by(HOME)
        for scale in (2, 3):
            rows = [re.sub(r'"(-?\d+)"', lambda found: f'"{scale * int(found.group(1))}"', row)
                    for row in picture(HOME).replace('r="1"', "r=1").split("\n")]
            head = f'<svg xmlns="http://www.w3.org/2000/svg" viewBox="{-scale} {-5 * scale} {6 * scale} {6 * scale}"'
            text = "\n".join([f'{head} data-scale="{scale}">'] + rows[1:]).replace("r=1", 'r="1"')
            self.check_wrong(text, 11)
        self.assertEqual(written(vertices, edges), picture(HOME))

    def test_frames_that_are_others(self):
        for frame in ("0 -5 6 6", "-1 -4 6 6", "-1 -5 7 6", "-1 -5 6 5", "-1 -5 -6 6", "0 0 0 0", "-2 -6 8 8"):
            self.check_wrong(picture(HOME).replace("-1 -5 6 6", frame), 11)
        for frame in ("-1 -5 6", "-1 -5 6 6 6", "-1  -5 6 6", "-1,-5,6,6", "-1 -5 6 6 ", " -1 -5 6 6", "-1 -5 6 x"):
            self.check_wrong(picture(HOME).replace("-1 -5 6 6", frame), 0)

    def test_classes(self):
        for told in ("A", "B", "ABCD", "none", "D", "ACD", "BC"):
            for index in (1, 7):
                rows = picture(HOME).split("\n")
                text = self.changed(index, rows[index].replace('"AB"', f'"{told}"'))
                self.assertIsNone(wrong_line(text))
                vertices, edges = read_picture(text)
                label = () if told == "none" else tuple(told)
                self.assertEqual((vertices[2][1] if index == 7 else edges[0][2]), label)
        for told in ("BA", "AA", "", "E", "a", "AE", "None", "-", "A B", "CB", "ABCDA", "noneA", "none "):
            for index in (1, 7):
                rows = picture(HOME).split("\n")
                self.check_wrong(self.changed(index, rows[index].replace('"AB"', f'"{told}"')), index)

    def test_lines_of_other_forms(self):
        rows = picture(HOME).split("\n")
        for index in range(11):
            for other in ("", " " + rows[index], rows[index] + " ", rows[index].replace('"', "'"), rows[index][:-1],
                          rows[index].replace(" ", "  "), rows[index].upper(), rows[index] + rows[index], "<!-- -->"):
                if other != rows[index]:
                    self.check_wrong(self.changed(index, other), index)
        self.check_wrong(self.changed(7, '<circle cx="2" cy="-2" r="2" class="AB"/>'), 7)
        self.check_wrong(self.changed(7, '<circle cx="2" r="1" cy="-2" class="AB"/>'), 7)
        self.check_wrong(self.changed(7, '<circle cx="2" cy="-2" r="1"/>'), 7)

    def test_an_edge_between_what_is_no_vertex_or_one_alone(self):
        for ends in ('x1="0" y1="0" x2="0" y2="-3"', 'x1="1" y1="0" x2="0" y2="-4"', 'x1="0" y1="0" x2="0" y2="0"',
                     'x1="0" y1="-4" x2="0" y2="0"', 'x1="4" y1="0" x2="4" y2="-4"', 'x1="0" y1="4" x2="4" y2="0"'):
            self.check_wrong(self.changed(1, f'<line {ends} class="AB"/>'), 11)

    def test_edges_need_not_be_those_of_a_drawing(self):
        vertices = ((at(0, 0), ()), (at(1, 1), ()), (at(2, 2), ("A",)), (at(2, 3), ()))
        edges = ((0, 1, ("B",)), (0, 2, ()), (1, 3, ("D",)))
        self.assertEqual(read_picture(written(vertices, edges)), (vertices, edges))

    def test_vertices_that_do_not_ascend(self):
        circle = '<circle cx="2" cy="-2" r="1" class="AB"/>'
        self.assertEqual(picture(HOME).split("\n")[7], circle)
        for other in ('cx="0" cy="-2"', 'cx="4" cy="-4"', 'cx="0" cy="-4"', 'cx="4" cy="0"', 'cx="5" cy="-2"'):
            self.check_wrong(self.changed(7, circle.replace('cx="2" cy="-2"', other)), 11)
        self.assertIsNone(failure(read_picture, self.changed(7, circle.replace('cx="2"', 'cx="3"'))))

    def test_1200_and_1201_lines(self):
        for many in (1197, 1198, 1199, 1300):
            vertices = tuple((at(k, -k * k), ("A",)) for k in range(many))
            text = written(vertices, ())
            if many + 2 <= 1200:
                self.assertEqual(read_picture(text), (vertices, ()))
            else:
                self.check_wrong(text, many + 2)
        rows = written(tuple((at(k, 0), ()) for k in range(1300)), ()).split("\n")
        self.check_wrong("\n".join(rows[:1250] + ["x"] + rows[1250:]), 1250)
        edges = tuple((k, k + 1, ()) for k in range(598))
        vertices = tuple((at(k, 0), ()) for k in range(600))
        self.assertEqual(read_picture(written(vertices, edges)), (vertices, edges))
        self.check_wrong(written(vertices, edges + ((598, 599, ()),)), 1201)

    def test_what_is_no_string(self):
        for value in (None, 1, True, b"<svg>", [EMPTY], (EMPTY,), {}):
            error = failure(read_picture, value)
            self.assertIs(error.__class__, errors.BadText)
            self.assertIsNone(error.spot)

    def test_pictures_with_signs_and_lines_changed(self):
        chance = random.Random(344)
        told = {True: 0, False: 0}
        texts = [picture(scene) for scene in scenes(345, 30)]
        for _ in range(1500):
            text = chance.choice(texts)
            if chance.random() < 0.6:
                place = chance.randrange(len(text))
                text = text[:place] + chance.choice("01-4 \"ABn\n/") + text[place + chance.randrange(2):]
            else:
                rows = text.split("\n")
                place = chance.randrange(len(rows))
                rows[place:place + chance.randrange(2)] = [chance.choice(chance.choice(texts).split("\n"))] * (
                    chance.randrange(2))
                text = "\n".join(rows)
            line = wrong_line(text)
            told[line is None] += 1
            if line is None:
                vertices, edges = read_picture(text)
                self.assertEqual(written(vertices, edges), text)
            else:
                self.check_wrong(text, line)
        self.assertGreater(min(told.values()), 50)


if __name__ == "__main__":
    unittest.main()
