import random
import unittest
from fractions import Fraction
from itertools import chain

import oracle
import places
from helpers import SQUARE, at, failure, line, some_points, some_segments
from bentalike import errors
from bentalike.drawings import drawing_of, point_in
from bentalike.figures import cells_of, is_figure, is_in, segments_of, spots_of

BLOCK = ("area", (at(0, 0), at(2, 0), at(2, 2), at(0, 2)))
DOT = ("spot", at(1, 1))
STICK = ("path", (at(0, 0), at(2, 0)))
GREAT = 10 ** 390


def zigzag(many, start=0):
    """So many points, neighbours unlike, no two segments between them alike."""
    return tuple(at(start + k, k % 2) for k in range(many))


def nested(figure, many):
    for _ in range(many):
        figure = ("closure", figure)
    return figure


def box(low, high):
    return "area", (at(low, low), at(high, low), at(high, high), at(low, high))


class IsFigure(unittest.TestCase):

    def test_each_kind(self):
        for figure in (BLOCK, DOT, STICK, ("both", BLOCK, DOT), ("either", DOT, STICK), ("less", BLOCK, STICK),
                       ("closure", DOT), ("inner", BLOCK), ("rim", STICK)):
            self.assertIs(is_figure(figure), True)

    def test_paths_of_2_to_12_points(self):
        for many in range(0, 15):
            self.assertIs(is_figure(("path", zigzag(many))), 2 <= many <= 12)

    def test_areas_of_3_to_12_points(self):
        for many in range(0, 15):
            self.assertIs(is_figure(("area", zigzag(many))), 3 <= many <= 12)

    def test_neighbours_are_unlike(self):
        a, b, c = at(0, 0), at(1, 0), at(0, 1)
        for points in ((a, a), (a, b, b), (b, b, a), (a, b, c, c)):
            self.assertIs(is_figure(("path", points)), False)
        for points in ((a, a, b), (a, b, b), (a, b, c, c), (a, b, a), (a, b, c, a)):
            self.assertIs(is_figure(("area", points)), False)
        for points in ((a, b, a), (a, b, c, a)):
            self.assertIs(is_figure(("path", points)), True)
        self.assertIs(is_figure(("area", (a, b, a, c))), True)

    def test_6_deep_and_7_deep(self):
        for figure in (DOT, STICK, BLOCK):
            self.assertIs(is_figure(nested(figure, 5)), True)
            self.assertIs(is_figure(nested(figure, 6)), False)
            self.assertIs(is_figure(("both", DOT, nested(figure, 4))), True)
            self.assertIs(is_figure(("both", nested(figure, 5), DOT)), False)
            self.assertIs(is_figure(("less", DOT, nested(figure, 5))), False)

    def test_24_and_25_segments(self):
        rows = (("path", zigzag(12)), ("path", zigzag(12, 20)), ("path", zigzag(3, 40)), ("path", zigzag(4, 40)))
        fits = ("either", ("either", rows[0], rows[1]), rows[2])
        beyond = ("either", ("either", rows[0], rows[1]), rows[3])
        self.assertEqual(len(segments_of(fits)), 24)
        self.assertIs(is_figure(fits), True)
        self.assertIs(is_figure(beyond), False)
        self.assertIs(is_figure(("both", ("area", zigzag(12)), ("area", zigzag(12)))), True)
        self.assertIs(is_figure(("both", ("area", zigzag(12)), ("less", ("area", zigzag(12)), STICK))), False)

    def test_other_values(self):
        point = at(0, 0)
        wrong = (None, True, 0, "spot", b"spot", (), ("spot",), ("spot", point, point), ["spot", point], ("dot", point),
                 ("", point), (b"spot", point), (None, point), (["spot"], point), ("spot", [point]), ("spot", (0, 0)),
                 ("spot", ((0, 1), (True, 1))), ("path", [point, at(1, 0)]), ("path", (point, (1, 0))), ("path", point),
                 ("path", (point, at(1, 0)), ()), ("path", "ab"), ("both", DOT), ("both", DOT, DOT, DOT), ("both",),
                 ("both", DOT, None), ("both", None, DOT), ("closure",), ("closure", DOT, DOT), ("closure", [DOT]),
                 ("closure", point), ("rim", ("rim", ("spot", None))), ("Spot", point), ("not", DOT), ("all",),
                 ("name", "A"), ("disc", BLOCK[1]), ("line", STICK[1]), {"spot": point}, ("spot", None), ("area", (at(0, 0), at(1, 0), None)), DOT + DOT)
        for value in wrong:
            self.assertIs(is_figure(value), False, value)

    def test_great_shared_values_are_told_soon(self):
        wide = DOT
        for _ in range(28):
            wide = ("both", wide, wide)
        self.assertIs(is_figure(wide), False)


class SegmentsAndSpots(unittest.TestCase):

    def test_those_of_a_path(self):
        self.assertEqual(segments_of(("path", (at(0, 0), at(1, 0), at(0, 0)))), (line(0, 0, 1, 0), line(1, 0, 0, 0)))

    def test_an_area_is_closed_by_the_last_one(self):
        self.assertEqual(segments_of(BLOCK), SQUARE)

    def test_a_spot_has_none(self):
        self.assertEqual(segments_of(DOT), ())
        self.assertEqual(spots_of(DOT), (at(1, 1),))
        self.assertEqual(spots_of(BLOCK), ())

    def test_in_the_order_in_which_they_stand(self):
        other = ("spot", at(0, 7))
        figure = ("less", ("rim", ("either", DOT, STICK)), ("both", other, ("inner", ("either", BLOCK, DOT))))
        self.assertEqual(segments_of(figure), (line(0, 0, 2, 0),) + SQUARE)
        self.assertEqual(spots_of(figure), (at(1, 1), at(0, 7), at(1, 1)))


class TooManySegments(unittest.TestCase):

    def test_how_many_are_told(self):
        row = ("path", zigzag(12))
        wide = row
        for many in (11, 22, 44, 88, 176, 352):
            for function in (segments_of, spots_of):
                error = failure(function, wide)
                if many <= 24:
                    self.assertIsNone(error)
                else:
                    self.assertEqual((error.__class__, error.given), (errors.TooMany, many))
            wide = ("either", wide, wide)
        self.assertIs(failure(segments_of, wide).__class__, errors.InvalidFigure)

    def test_just_one_too_many(self):
        figure = ("both", ("area", zigzag(12)), ("both", ("path", zigzag(12)), ("path", zigzag(3))))
        error = failure(is_in, figure, at(0, 0))
        self.assertEqual((error.__class__, error.given), (errors.TooMany, 25))


class IsIn(unittest.TestCase):

    def check(self, figure, told):
        for place, truth in told.items():
            self.assertIs(is_in(figure, at(*place)), truth, place)

    def test_a_spot(self):
        self.check(DOT, {(1, 1): True, (1, 1 + Fraction(1, GREAT)): False})

    def test_a_path(self):
        self.check(("path", (at(0, 0), at(2, 0), at(2, 2))),
                   {(0, 0): True, (1, 0): True, (2, 2): True, (1, 1): False, (3, 0): False, (2, 1): True})

    def test_an_area_with_its_rim(self):
        self.check(BLOCK, {(0, 0): True, (1, 0): True, (1, 1): True, (2, 2): True, (-1, 0): False, (1, 3): False,
                           (2, Fraction(1, 7)): True, (2 + Fraction(1, GREAT), 1): False})

    def test_an_area_whose_line_crosses_itself(self):
        bow = ("area", (at(0, 0), at(4, 4), at(4, 0), at(0, 4)))
        self.check(bow, {(1, 2): True, (3, 2): True, (2, 1): False, (2, 3): False, (2, 2): True, (1, 1): True})
        # Round the middle of this star the line goes twice.
        star = ("area", (at(0, 6), at(4, -5), at(-6, 2), at(6, 2), at(-4, -5)))
        self.check(star, {(0, 0): False, (0, 4): True, (3, -3): True, (4, 1): True, (-4, 1): True, (0, 2): True})

    def test_a_part_along_which_the_line_goes_twice_is_crossed_twice(self):
        spear = ("area", (at(0, 0), at(4, 0), at(4, 2), at(6, 2), at(4, 2), at(4, 4), at(0, 4)))
        self.check(spear, {(2, 2): True, (5, 2): True, (5, 1): False, (5, 3): False, (7, 2): False, (6, 2): True})
        within = ("area", (at(0, 0), at(4, 0), at(4, 2), at(2, 2), at(4, 2), at(4, 4), at(0, 4)))
        self.check(within, {(3, 2): True, (3, 1): True, (1, 2): True, (2, 2): True, (5, 2): False})
        there_and_back = ("area", (at(0, 0), at(1, 1), at(2, 2), at(1, 1)))
        self.check(there_and_back, {(1, 1): True, (Fraction(1, 2), Fraction(1, 2)): True, (1, 2): False, (2, 1): False})

    def test_a_line_that_goes_round_twice(self):
        twice = ("area", (at(0, 0), at(4, 0), at(4, 4), at(0, 4)) * 2)
        self.check(twice, {(2, 2): False, (0, 2): True, (4, 4): True, (5, 5): False})
        thrice = ("area", (at(0, 0), at(4, 0), at(4, 4), at(0, 4)) * 3)
        self.check(thrice, {(2, 2): True, (0, 2): True, (5, 5): False})

    def test_both_either_less(self):
        other = ("area", (at(1, 0), at(3, 0), at(3, 2), at(1, 2)))
        left, middle, right, far = (Fraction(1, 2), 1), (Fraction(3, 2), 1), (Fraction(5, 2), 1), (9, 9)
        self.check(("both", BLOCK, other), {left: False, middle: True, right: False, far: False, (1, 1): True})
        self.check(("either", BLOCK, other), {left: True, middle: True, right: True, far: False})
        self.check(("less", BLOCK, other), {left: True, middle: False, right: False, far: False, (1, 1): False})

    def test_closure_inner_and_rim_of_what_is_neither_open_nor_closed(self):
        # A square with one side and the corner (0, 0) taken away, and with a hole that is a spot.
        half = ("less", ("less", BLOCK, STICK), DOT)
        self.check(half, {(1, 0): False, (0, 0): False, (0, 1): True, (1, 1): False, (1, Fraction(1, 9)): True})
        self.check(("closure", half), {(1, 0): True, (0, 0): True, (0, 1): True, (1, 1): True, (3, 3): False})
        self.check(("inner", half), {(1, 0): False, (0, 1): False, (1, 1): False, (1, Fraction(1, 9)): True})
        self.check(("rim", half), {(1, 0): True, (0, 1): True, (1, 1): True, (1, Fraction(1, 9)): False, (3, 3): False})

    def test_closure_inner_and_rim_within_one_another(self):
        holed = ("less", BLOCK, DOT)
        self.check(("inner", ("closure", holed)), {(1, 1): True, (0, 0): False})
        self.check(("closure", ("inner", holed)), {(1, 1): True, (0, 0): True})
        self.check(("rim", ("rim", BLOCK)), {(1, 0): True, (1, 1): False})
        self.check(("inner", ("rim", BLOCK)), {(1, 0): False, (1, 1): False, (0, 0): False})
        self.check(("rim", ("closure", holed)), {(1, 1): False, (0, 0): True})
        self.check(("closure", ("inner", ("either", BLOCK, ("path", (at(2, 2), at(3, 3)))))),
                   {(2, 2): True, (3, 3): False, (Fraction(5, 2), Fraction(5, 2)): False})

    def test_of_paths_and_spots(self):
        self.check(("inner", STICK), {(0, 0): False, (1, 0): False})
        self.check(("closure", ("less", STICK, ("spot", at(1, 0)))), {(1, 0): True, (0, 0): True, (3, 0): False})
        self.check(("rim", DOT), {(1, 1): True, (0, 0): False})

    def test_the_plane_without_a_figure_is_not_told_by_one(self):
        none = ("less", BLOCK, BLOCK)
        for figure in (none, ("closure", none), ("inner", none), ("rim", none)):
            self.check(figure, {(1, 1): False, (0, 0): False, (9, 9): False, (1, 0): False})

    def test_6_deep(self):
        figure = ("rim", ("inner", ("closure", ("less", ("either", BLOCK, STICK), DOT))))
        self.check(figure, {(0, 0): True, (1, 1): False, (1, 0): True})
        self.assertIs(is_figure(("inner", figure)), False)

    def test_as_the_oracle_tells(self):
        chance = random.Random(4)
        told = {True: 0, False: 0}
        for _ in range(600):
            figure = places.some_figure(chance, chance.randrange(1, 5), 4)
            if is_figure(figure):
                for _ in range(4):
                    place = Fraction(chance.randrange(9), 2), Fraction(chance.randrange(9), 2)
                    truth = places.is_in(figure, place)
                    told[truth] += 1
                    self.assertIs(is_in(figure, oracle.told(place)), truth, (figure, place))
        self.assertGreater(min(told.values()), 100)


class CellsOf(unittest.TestCase):

    def check(self, figure, segments, points):
        truths = cells_of(figure, segments, points)
        lines, dots = segments_of(figure) + segments, spots_of(figure) + points
        if len(lines) > 24 or len(dots) > 24:
            return 0
        drawing = drawing_of(lines, dots)
        self.assertEqual([len(row) for row in truths], [len(row) for row in drawing])
        for kind, row in zip(("vertex", "edge", "face"), truths):
            for index, truth in enumerate(row):
                place = point_in(lines, dots, (kind, index))
                self.assertIs(truth, is_in(figure, place), (figure, kind, index))
        return 1

    def test_each_cell_is_in_it_or_not_as_its_places_are(self):
        chance = random.Random(6)
        checked = 0
        for seed in range(40):
            figure = places.some_figure(chance, chance.randrange(1, 5), 4)
            if is_figure(figure):
                checked += self.check(figure, some_segments(seed, seed % 4, 5), some_points(seed, seed % 3, 5))
        self.assertGreater(checked, 20)

    def test_more_segments_and_points_cut_it(self):
        truths = cells_of(BLOCK, (line(1, 0, 1, 2), line(-1, 1, 3, 1)), (at(9, 9), at(1, 1)))
        self.assertEqual([(row.count(True), len(row)) for row in truths], [(9, 12), (12, 14), (4, 5)])

    def test_what_is_passed_is_not_in_the_figure(self):
        vertices, edges, faces = cells_of(DOT, SQUARE, (at(0, 1), at(1, 1)))
        self.assertEqual((vertices.count(True), edges.count(True), faces), (1, 0, (False, False)))

    def test_24_segments_and_24_more(self):
        lines = [(at(0, k), at(9, k)) for k in range(12)] + [(at(k, 0), at(k, 9)) for k in range(12)]
        more = tuple([(at(Fraction(2 * k + 1, 2), 0), at(Fraction(2 * k + 1, 2), 9)) for k in range(12)]
                     + [(at(0, Fraction(2 * k + 1, 2)), at(9, Fraction(2 * k + 1, 2))) for k in range(12)])
        figure = ("area", tuple(chain.from_iterable(lines[:6])))
        points = tuple(at(k, 20) for k in range(24))
        vertices, edges, faces = cells_of(figure, more, points)
        self.assertEqual((vertices[-1], faces[0]), (False, False))
        self.assertEqual(len(cells_of(figure, (), ())), 3)

    def test_the_answers_are_tuples_of_true_and_false(self):
        for row in cells_of(("rim", BLOCK), (line(0, 0, 2, 2),), ()):
            self.assertIsInstance(row, tuple)
            for truth in row:
                self.assertIsInstance(truth, bool)


if __name__ == "__main__":
    unittest.main()
