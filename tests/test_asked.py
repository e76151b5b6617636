import random
import unittest
from fractions import Fraction

import charts
import oracle
import repick
from helpers import at, failure
from test_picks import BIG_A, BIG_B, EVERY, NOTHING, composed
from test_plans import scenes
from test_renamings import KEEPING, TURNING, led_scene
from bentalike import errors
from bentalike.asked import are_joined, euler, holes, meetings, pieces, word_of
from bentalike.drawings import cell_at
from bentalike.figures import is_in, segments_of, spots_of
from bentalike.needless import least_map
from bentalike.picks import cells_in
from bentalike.questions import euler_in, holes_in, meetings_in, pieces_in, word_in
from bentalike.scenes import is_scene

HALL = ("area", (at(0, 0), at(4, 0), at(4, 4), at(0, 4)))
ROOM = ("area", (at(1, 1), at(3, 1), at(3, 3), at(1, 3)))
FAR = ("area", (at(8, 0), at(9, 0), at(9, 1)))
HOME = (("A", ("less", HALL, ROOM)), ("B", ("either", ROOM, FAR)))


def cell_of(scene, point):
    """The cell of the map of the scene's plan in which a point is."""
    lines = tuple(line for _, figure in scene for line in segments_of(figure))
    dots = tuple(dot for _, figure in scene for dot in spots_of(figure))
    kind, index = cell_at(lines, dots, point)
    return {"vertex": "special", "edge": "arc", "face": "face"}[kind], index


class OfScenes(unittest.TestCase):

    def test_by_hand(self):
        self.assertEqual([pieces(HOME, BIG_A), holes(HOME, BIG_A), euler(HOME, BIG_A)], [1, 1, -1 + 1])
        self.assertEqual([pieces(HOME, BIG_B), holes(HOME, BIG_B), euler(HOME, BIG_B)], [2, 0, 2])
        neither = ("not", ("either", BIG_A, BIG_B))
        self.assertEqual([pieces(HOME, neither), holes(HOME, neither)], [1, 2])
        self.assertEqual([word_of(HOME, "A", "B"), word_of(HOME, "B", "A"), word_of(HOME, "A", "A")],
                         ["touching"] * 2 + ["same"])
        self.assertEqual(meetings(HOME, "A", "B"), (False, False, True, False, True, True, True, True, True))

    def test_of_no_sets(self):
        self.assertEqual([pieces((), EVERY), holes((), EVERY), euler((), EVERY)], [1, 0, 1])
        self.assertEqual([pieces((), BIG_A), holes((), BIG_A), euler((), BIG_A)], [0, 0, 0])
        self.assertEqual(word_of((), "A", "D"), "same")
        self.assertEqual(meetings((), "A", "D"), (False,) * 8 + (True,))
        self.assertIs(are_joined((), EVERY, at(0, 0), at(9, -9)), True)
        self.assertIs(are_joined((), BIG_A, at(0, 0), at(0, 0)), False)

    def test_each_word(self):
        told = (
            ((("A", HALL), ("B", ("closure", HALL))), "same"), ((("A", ROOM), ("B", HALL)), "within"),
            ((("A", HALL), ("B", ROOM)), "around"), ((("A", HALL), ("B", ("either", ROOM, FAR))), "crossing"),
            (HOME, "touching"), ((("A", ROOM), ("B", FAR)), "apart"),
            ((("A", ("inner", ROOM)), ("B", ("rim", ROOM))), "touching"),
            ((("A", HALL),), "around"), ((("B", HALL),), "within"))
        for scene, word in told:
            self.assertEqual(word_of(scene, "A", "B"), word)

    def test_they_are_those_of_the_least_map(self):
        chance = random.Random(101)
        for scene in scenes(102, 60):
            chart = least_map(scene)
            pick = repick.some_pick(chance, chance.randrange(1, 5))
            self.assertEqual(pieces(scene, pick), len(pieces_in(chart, pick)))
            self.assertEqual(holes(scene, pick), len(holes_in(chart, pick)))
            self.assertEqual(euler(scene, pick), euler_in(chart, pick))
            for name, other in (("A", "B"), ("C", "A"), ("B", "B")):
                self.assertEqual(meetings(scene, name, other), meetings_in(chart, name, other))
                self.assertEqual(word_of(scene, name, other), word_in(chart, name, other))

    def test_they_are_those_of_the_map_of_the_plan(self):
        chance = random.Random(103)
        for scene in scenes(104, 60):
            chart = charts.map_of_scene(scene)
            pick = repick.some_pick(chance, chance.randrange(1, 5))
            self.assertEqual(pieces(scene, pick), len(pieces_in(chart, pick)))
            self.assertEqual(holes(scene, pick), len(holes_in(chart, pick)))
            self.assertEqual(euler(scene, pick), euler_in(chart, pick))
            self.assertEqual(meetings(scene, "A", "B"), meetings_in(chart, "A", "B"))

    def test_bending_leaves_them(self):
        chance = random.Random(105)
        for scene in scenes(106, 30, 2):
            pick = repick.some_pick(chance, 3)
            told = [pieces(scene, pick), holes(scene, pick), euler(scene, pick), meetings(scene, "A", "B")]
            for numbers in KEEPING[1:3] + TURNING[1:]:
                other = led_scene(scene, numbers)
                self.assertEqual([pieces(other, pick), holes(other, pick), euler(other, pick),
                                  meetings(other, "A", "B")], told)


class Joined(unittest.TestCase):

    def test_by_hand(self):
        told = (
            (BIG_A, at(0, 0), at(4, 4), True), (BIG_A, at(0.5, 0.5), at(3.5, 2), True),
            (BIG_A, at(2, 2), at(2, 2), False),
            (BIG_A, at(0, 0), at(1, 1), False), (BIG_A, at(0, 0), at(0, 0), True),
            (BIG_B, at(2, 2), at(8.5, 0.25), False),
            (BIG_B, at(1, 1), at(2.5, 2), True), (BIG_B, at(8, 0), at(9, 1), True), (BIG_B, at(2, 2), at(9, 9), False),
            (("not", BIG_A), at(2, 2), at(-9, 5), False), (("not", BIG_A), at(8.5, 0.25), at(-9, 5), True),
            (("not", BIG_A), at(-100, 3), at(10 ** 30, 3), True), (("either", BIG_A, BIG_B), at(0, 0), at(2, 2), True),
            (("either", BIG_A, BIG_B), at(0, 0), at(9, 1), False), (EVERY, at(2, 2), at(50, 50), True),
            (NOTHING, at(2, 2), at(2, 2), False), (("name", "D"), at(0, 0), at(0, 0), False))
        for pick, point, other, truth in told:
            self.assertIs(are_joined(HOME, pick, point, other), truth, (pick, point, other))
            self.assertIs(are_joined(HOME, pick, other, point), truth)

    def test_on_vertices_on_edges_in_faces_far_away(self):
        rim = ("rim", BIG_A)
        self.assertIs(are_joined(HOME, rim, at(0, 0), at(4, 2)), True)
        self.assertIs(are_joined(HOME, rim, at(0, 0), at(1, 1)), False)
        self.assertIs(are_joined(HOME, rim, at(1, 2), at(3, 3)), True)
        self.assertIs(are_joined(HOME, rim, at(0, Fraction(1, 7)), at(0, Fraction(2, 7))), True)
        self.assertIs(are_joined(HOME, rim, at(0.5, 0.5), at(0, 0)), False)
        line = ((("A", ("path", (at(0, 0), at(4, 0)))), ("B", ("path", (at(2, -1), at(2, 1))))))
        self.assertIs(are_joined(line, ("less", BIG_A, BIG_B), at(1, 0), at(3, 0)), False)
        self.assertIs(are_joined(line, BIG_A, at(1, 0), at(3, 0)), True)
        self.assertIs(are_joined(line, ("not", BIG_A), at(2, 1), at(2, -1)), True)
        self.assertIs(are_joined(line, ("both", BIG_A, BIG_B), at(2, 0), at(2, 0)), True)

    def test_two_places_of_one_face_or_edge(self):
        for point, other in ((at(0.5, 0.5), at(0.5, 0.25)), (at(0, 0.5), at(0, 0.25)), (at(-5, 0), at(-6, 0))):
            pick = EVERY if point == at(-5, 0) else BIG_A
            self.assertIs(are_joined(HOME, pick, point, other), True)
            self.assertIs(are_joined(HOME, pick, point, point), True)

    def test_as_the_cells_of_the_map_of_the_plan_tell(self):
        chance = random.Random(107)
        told = {True: 0, False: 0}
        for scene in scenes(108, 60):
            chart = charts.map_of_scene(scene)
            pick = repick.some_pick(chance, chance.randrange(1, 5), "AB")
            found = pieces_in(chart, pick)
            for _ in range(4):
                point, other = [at(Fraction(chance.randrange(-1, 9), 2), Fraction(chance.randrange(-1, 9), 2))
                                for _ in range(2)]
                cells = cell_of(scene, point), cell_of(scene, other)
                truth = any(cells[0] in piece and cells[1] in piece for piece in found)
                self.assertIs(are_joined(scene, pick, point, other), truth)
                told[truth] += 1
        self.assertGreater(min(told.values()), 40)

    def test_each_place_is_joined_with_itself_exactly_if_it_is_in_the_pick(self):
        chance = random.Random(109)
        for scene in scenes(110, 50, 2):
            pick = repick.some_pick(chance, 2, [name for name, _ in scene] or "A")
            figure = composed(pick, dict(scene)) if scene else None
            place = at(Fraction(chance.randrange(9), 2), Fraction(chance.randrange(9), 2))
            told = are_joined(scene, pick, place, place)
            self.assertIs(told, cell_of(scene, place) in cells_in(charts.map_of_scene(scene), pick))
            if figure is not None and is_scene((("A", figure),)):
                self.assertIs(told, is_in(figure, place))

    def test_a_way_that_meets_no_line_joins(self):
        chance = random.Random(111)
        done = 0
        for scene in scenes(112, 80):
            lines = [tuple(map(oracle.exact, line)) for _, figure in scene for line in segments_of(figure)]
            dots = [oracle.exact(dot) for _, figure in scene for dot in spots_of(figure)]
            ends = [(Fraction(chance.randrange(31), 7), Fraction(chance.randrange(31), 7)) for _ in range(2)]
            if ends[0] != ends[1] and not any(oracle.common(tuple(ends), line) for line in lines) and not any(
                    oracle.is_on(tuple(ends), dot) for dot in dots):
                point, other = map(oracle.told, ends)
                self.assertIs(are_joined(scene, EVERY, point, other), True)
                for name, figure in scene:
                    self.assertIs(are_joined(scene, ("name", name), point, other), is_in(figure, point))
                    self.assertIs(are_joined(scene, ("not", ("name", name)), point, other), not is_in(figure, point))
                done += 1
        self.assertGreater(done, 20)


class Wrong(unittest.TestCase):

    def test_picks_7_deep(self):
        pick = BIG_A
        for _ in range(6):
            pick = ("rim", pick)
        for function, rest in ((pieces, ()), (holes, ()), (euler, ()), (are_joined, (at(0, 0), at(1, 1)))):
            error = failure(function, HOME, pick, *rest)
            self.assertIs(error.__class__, errors.InvalidPick)
            self.assertIs(error.given, pick)
            function(HOME, pick[1], *rest)


if __name__ == "__main__":
    unittest.main()
