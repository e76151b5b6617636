import random
import unittest
from fractions import Fraction

import oracle
import places
from helpers import at, failure
from bentalike import errors
from bentalike.drawings import drawing_of, point_in
from bentalike.figures import is_figure, is_in, segments_of, spots_of
from bentalike.scenes import drawing_in, is_scene, label_at, labels_in

BLOCK = ("area", (at(0, 0), at(2, 0), at(2, 2), at(0, 2)))
DOT = ("spot", at(1, 1))
STICK = ("path", (at(0, 0), at(2, 0)))


def zigzag(many, start=0):
    return "path", tuple(at(start + k, k % 2) for k in range(many))


def some_scene(chance, deep, size):
    names = [name for name in "ABCD" if chance.random() < 0.6]
    return tuple((name, places.some_figure(chance, chance.randrange(1, deep + 1), size)) for name in names)


class IsScene(unittest.TestCase):

    def test_names_ascending_and_unlike(self):
        for names in ("", "A", "D", "AB", "BD", "ABCD", "ACD"):
            self.assertIs(is_scene(tuple((name, DOT) for name in names)), True)
        for names in ("AA", "BA", "ABA", "ABB", "DCBA", "ABDC", "AABCD", "E", "a", "AE", "@"):
            self.assertIs(is_scene(tuple((name, DOT) for name in names)), False)

    def test_24_and_25_segments_together(self):
        fits = (("A", zigzag(12)), ("B", zigzag(12)), ("C", zigzag(3)))
        self.assertIs(is_scene(fits), True)
        self.assertIs(is_scene(fits + (("D", STICK),)), False)
        self.assertIs(is_scene(fits + (("D", DOT),)), True)

    def test_other_values(self):
        wrong = (None, True, 0, "A", b"A", [], {}, {"A": DOT}, [("A", DOT)], (("A",),), (("A", DOT, DOT),), ("A", DOT),
                 (["A", DOT],), (("A", None),), (("A", [DOT]),), ((None, DOT),), ((b"A", DOT),), ((("A",), DOT),),
                 (("AB", DOT),), (("", DOT),), ((0, DOT),), ((True, DOT),), (("A", DOT), None),
                 (("A", ("spot", None)),),
                 (DOT,), DOT, (("A", ("both", DOT, STICK, DOT)),), ("A",), ((),))
        for value in wrong:
            self.assertIs(is_scene(value), False, value)

    def test_figures_6_and_7_deep(self):
        figure = BLOCK
        for deep in range(1, 9):
            self.assertIs(is_scene((("A", DOT), ("C", figure))), deep <= 6)
            figure = ("rim", figure)


class TooManySegments(unittest.TestCase):

    def test_how_many_there_are_together(self):
        scene = (("A", zigzag(12)), ("B", zigzag(12)), ("C", zigzag(4)), ("D", ("less", BLOCK, DOT)))
        for many, told in ((3, 25), (4, 29)):
            for function, rest in ((label_at, (at(0, 0),)), (drawing_in, ()), (labels_in, ())):
                error = failure(function, scene[:many], *rest)
                self.assertEqual((error.__class__, error.given), (errors.TooMany, told))

    def test_a_figure_with_too_many_by_itself(self):
        wide = ("either", zigzag(12), ("either", zigzag(12), zigzag(12)))
        error = failure(drawing_in, (("B", wide),))
        self.assertEqual((error.__class__, error.given), (errors.TooMany, 33))

    def test_what_is_no_scene_comes_first(self):
        error = failure(label_at, (("B", zigzag(12)), ("A", zigzag(12)), ("C", zigzag(12))), at(0, 0))
        self.assertIs(error.__class__, errors.InvalidScene)
        error = failure(label_at, (("A", zigzag(12)), ("B", zigzag(12)), ("C", zigzag(12))), None)
        self.assertIs(error.__class__, errors.TooMany)


class Labels(unittest.TestCase):

    def test_no_sets(self):
        self.assertEqual(label_at((), at(0, 0)), ())
        self.assertEqual(drawing_in(()), ((), (), (((), ()),)))
        self.assertEqual(labels_in(()), ((), (), ((),)))

    def test_names_ascending(self):
        scene = (("A", BLOCK), ("B", DOT), ("C", ("rim", BLOCK)), ("D", ("either", BLOCK, STICK)))
        self.assertEqual(label_at(scene, at(1, 1)), ("A", "B", "D"))
        self.assertEqual(label_at(scene, at(1, 0)), ("A", "C", "D"))
        self.assertEqual(label_at(scene, at(3, 0)), ())
        self.assertEqual(label_at(scene[1:], at(1, Fraction(1, 2))), ("D",))

    def test_the_drawing_is_that_of_all_figures(self):
        scene = (("A", ("less", BLOCK, DOT)), ("C", ("closure", STICK)), ("D", ("spot", at(5, 5))))
        lines = segments_of(scene[0][1]) + segments_of(scene[1][1])
        self.assertEqual(drawing_in(scene), drawing_of(lines, (at(1, 1), at(5, 5))))

    def test_each_cell_has_the_label_of_its_places(self):
        chance = random.Random(8)
        checked = 0
        for _ in range(40):
            scene = some_scene(chance, 4, 4)
            if is_scene(scene):
                lines = tuple(line for _, figure in scene for line in segments_of(figure))
                dots = tuple(dot for _, figure in scene for dot in spots_of(figure))
                self.assertEqual(drawing_in(scene), drawing_of(lines, dots))
                self.check_cells(scene, lines, dots)
                checked += 1
        self.assertGreater(checked, 15)

    def check_cells(self, scene, lines, dots):
        labels = labels_in(scene)
        self.assertEqual([len(row) for row in labels], [len(row) for row in drawing_in(scene)])
        self.assertEqual(labels[2][0], ())
        for kind, row in zip(("vertex", "edge", "face"), labels):
            for index, label in enumerate(row):
                place = point_in(lines, dots, (kind, index))
                told = tuple(name for name, figure in scene if is_in(figure, place))
                self.assertEqual(label, told)
                self.assertEqual(label_at(scene, place), told)

    def test_as_the_oracle_tells(self):
        chance = random.Random(9)
        found = set()
        for _ in range(150):
            scene = some_scene(chance, 3, 4)
            if is_scene(scene):
                for _ in range(4):
                    place = Fraction(chance.randrange(9), 2), Fraction(chance.randrange(9), 2)
                    told = tuple(name for name, figure in scene if places.is_in(figure, place))
                    found.add(told)
                    self.assertEqual(label_at(scene, oracle.told(place)), told)
        self.assertGreater(len(found), 8)

    def test_many_spots_in_a_scene(self):
        wide = DOT
        for _ in range(5):
            wide = ("either", wide, wide)
        scene = tuple((name, wide) for name in "ABCD")
        self.assertTrue(is_figure(wide))
        self.assertEqual(labels_in(scene), ((("A", "B", "C", "D"),), (), ((),)))


if __name__ == "__main__":
    unittest.main()
