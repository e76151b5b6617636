import unittest
from fractions import Fraction

import oracle
from helpers import SQUARE, at, line, ring_of, some_points, some_segments
from bentalike.cuts import edges_of, turns_of, vertices_of, walk_area, walks_of

GREAT = 10 ** 390
CROSS = (line(0, 0, 2, 2), line(0, 2, 2, 0))
WHISKER = (line(0, 0, 1, 0), line(1, 0, 2, 0), line(1, 0, 1, 1))


def areas(segments, points):
    return [walk_area(segments, points, index) for index in range(len(walks_of(segments, points)))]


class Vertices(unittest.TestCase):

    def test_nothing_at_all(self):
        self.assertEqual(vertices_of((), ()), ())

    def test_lone_points_ascending_each_once(self):
        points = (at(1, 0), at(0, 5), at(Fraction(1, 2), 9), at(0, -5), at(1, 0), at(-3, 7))
        told = (at(-3, 7), at(0, -5), at(0, 5), at(Fraction(1, 2), 9), at(1, 0))
        self.assertEqual(vertices_of((), points), told)

    def test_they_are_put_in_order_as_numbers(self):
        points = (at(Fraction(1, 2), 0), at(Fraction(2, 5), 0), at(Fraction(-1, 2), 0), at(Fraction(-2, 5), 0))
        self.assertEqual(vertices_of((), points), (points[2], points[3], points[1], points[0]))
        self.assertEqual(vertices_of((), tuple((y, x) for x, y in points)),
                         tuple((y, x) for x, y in (points[2], points[3], points[1], points[0])))

    def test_ends_and_crossings(self):
        self.assertEqual(vertices_of(CROSS, ()), (at(0, 0), at(0, 2), at(1, 1), at(2, 0), at(2, 2)))

    def test_three_through_one_point(self):
        segments = CROSS + (line(1, 0, 1, 2),)
        self.assertEqual(len(vertices_of(segments, ())), 7)

    def test_an_overlap_adds_its_ends_alone(self):
        self.assertEqual(vertices_of((line(0, 0, 3, 0), line(1, 0, 4, 0)), ()),
                         (at(0, 0), at(1, 0), at(3, 0), at(4, 0)))

    def test_the_same_segment_twice_or_the_other_way_round(self):
        for again in (line(0, 0, 3, 1), line(3, 1, 0, 0)):
            self.assertEqual(vertices_of((line(0, 0, 3, 1), again), ()), (at(0, 0), at(3, 1)))

    def test_lone_points_on_segments_twice(self):
        self.assertEqual(vertices_of((line(0, 0, 2, 0),), (at(1, 0), at(1, 0), at(2, 0))),
                         (at(0, 0), at(1, 0), at(2, 0)))


class Edges(unittest.TestCase):

    def test_nothing_at_all(self):
        self.assertEqual(edges_of((), ()), ())
        self.assertEqual(edges_of((), (at(0, 0), at(1, 0))), ())

    def test_a_lone_point_on_a_segment_cuts_it(self):
        self.assertEqual(edges_of((line(0, 0, 2, 0),), (at(1, 0), at(1, 0))), ((0, 1), (1, 2)))

    def test_a_lone_point_beside_does_not(self):
        self.assertEqual(edges_of((line(0, 0, 2, 0),), (at(1, Fraction(1, GREAT)),)), ((0, 2),))

    def test_overlaps_are_told_once(self):
        self.assertEqual(edges_of((line(0, 0, 3, 0), line(1, 0, 4, 0)), ()), ((0, 1), (1, 2), (2, 3)))
        self.assertEqual(edges_of((line(0, 0, 4, 0), line(3, 0, 1, 0)), ()), ((0, 1), (1, 2), (2, 3)))

    def test_touching_on_one_line(self):
        self.assertEqual(edges_of((line(0, 0, 1, 0), line(1, 0, 4, 0)), ()), ((0, 1), (1, 2)))

    def test_the_same_segment_twice_or_the_other_way_round(self):
        for again in (line(0, 0, 3, 1), line(3, 1, 0, 0)):
            self.assertEqual(edges_of((line(0, 0, 3, 1), again), ()), ((0, 1),))

    def test_an_end_on_another_segment(self):
        self.assertEqual(edges_of((line(0, 0, 2, 0), line(1, 0, 1, 5)), ()), ((0, 1), (1, 2), (1, 3)))

    def test_an_overlap_is_cut_by_what_crosses_either(self):
        segments = (line(0, 0, 4, 0), line(2, 0, 6, 0), line(3, -1, 3, 1))
        self.assertEqual(edges_of(segments, ()), ((0, 1), (1, 3), (2, 3), (3, 4), (3, 5), (5, 6)))


class Turns(unittest.TestCase):

    def test_nothing_at_all(self):
        self.assertEqual(turns_of((), ()), ())

    def test_a_lone_point_has_none(self):
        self.assertEqual(turns_of((line(0, 0, 1, 0),), (at(5, 5),)), ((0,), (1,), ()))

    def test_straight_right_up_left_down(self):
        segments = (line(0, -1, 0, 1), line(-1, 0, 1, 0))
        self.assertEqual(edges_of(segments, ()), ((0, 2), (1, 2), (2, 3), (2, 4)))
        self.assertEqual(turns_of(segments, ()), ((0,), (2,), (6, 4, 1, 3), (5,), (7,)))

    def test_eight_directions(self):
        around = ((1, 0), (1, 1), (0, 1), (-1, 1), (-1, 0), (-1, -1), (0, -1), (1, -1))
        segments = tuple(line(0, 0, x, y) for x, y in around)
        vertices = vertices_of(segments, ())
        edges = edges_of(segments, ())
        centre = vertices.index(at(0, 0))
        goals = []
        for dart in turns_of(segments, ())[centre]:
            low, high = edges[dart // 2]
            self.assertEqual(centre, high if dart % 2 else low)
            goals.append(vertices[low if dart % 2 else high])
        self.assertEqual(goals, [at(x, y) for x, y in around])

    def test_directions_that_are_nearly_alike(self):
        segments = (line(0, 0, GREAT, 1), line(0, 0, GREAT, 0), line(0, 0, GREAT - 1, 1))
        self.assertEqual(edges_of(segments, ()), ((0, 1), (0, 2), (0, 3)))
        self.assertEqual(turns_of(segments, ())[0], (2, 4, 0))


class Walks(unittest.TestCase):

    def test_nothing_at_all(self):
        self.assertEqual(walks_of((), ()), ())
        self.assertEqual(walks_of((), (at(0, 0),)), ())

    def test_both_sides_of_a_whisker_are_in_one_walk(self):
        self.assertEqual(walks_of((line(0, 0, 1, 0),), ()), ((0, 1),))
        self.assertEqual(walk_area((line(0, 0, 1, 0),), (), 0), (0, 1))

    def test_a_whisker_star(self):
        self.assertEqual(walks_of(WHISKER, ()), ((0, 2, 3, 4, 5, 1),))
        self.assertEqual(areas(WHISKER, ()), [(0, 1)])

    def test_a_whisker_into_a_square(self):
        segments = SQUARE + (line(0, 0, 1, 1),)
        self.assertEqual(edges_of(segments, ()), ((0, 1), (0, 2), (0, 3), (1, 4), (3, 4)))
        self.assertEqual(walks_of(segments, ()), ((0, 6, 9, 5), (1, 2, 3, 4, 8, 7)))
        self.assertEqual(areas(segments, ()), [(-4, 1), (4, 1)])

    def test_what_hangs_together_inside_of_something_else(self):
        inner = ring_of((1, 1), (2, 1), (2, 2))
        segments = ring_of((0, 0), (5, 0), (0, 5)) + inner
        self.assertEqual(sorted(areas(segments, ())), sorted([(-25, 2), (25, 2), (-1, 2), (1, 2)]))

    def test_touching_at_one_vertex(self):
        segments = SQUARE + ring_of((0, 0), (-1, 0), (0, -1))
        self.assertEqual(sorted(areas(segments, ())), sorted([(-9, 2), (4, 1), (1, 2)]))

    def test_areas_are_fractions_in_lowest_terms(self):
        self.assertEqual(areas(ring_of((0, 0), (1, 0), (0, 1)), ()), [(-1, 2), (1, 2)])
        self.assertEqual(areas(ring_of((0, 0), (Fraction(1, 3), 0), (0, Fraction(1, 3))), ()), [(-1, 18), (1, 18)])

    def test_areas_of_great_numbers(self):
        self.assertEqual(areas(ring_of((-GREAT, 0), (GREAT, 0), (0, GREAT)), ()),
                         [(GREAT ** 2, 1), (-GREAT ** 2, 1)][::-1])

    def test_indexes_from_the_first_to_the_last_walk(self):
        self.assertEqual([walk_area(SQUARE, (), index) for index in (0, 1)], [(-4, 1), (4, 1)])


class AsTheOracleTells(unittest.TestCase):

    def check(self, segments, points):
        lines = [tuple(oracle.exact(end) for end in segment) for segment in segments]
        places = oracle.vertices(lines, [oracle.exact(point) for point in points])
        pairs = oracle.edges(lines, places)
        turns = oracle.turns(places, pairs)
        walks = oracle.walks(turns, pairs)
        self.assertEqual(vertices_of(segments, points), tuple(oracle.told(place) for place in places))
        self.assertEqual(edges_of(segments, points), tuple(pairs))
        self.assertEqual(turns_of(segments, points), tuple(turns))
        self.assertEqual(walks_of(segments, points), tuple(walks))
        areas_told = [oracle.area(places, pairs, walk) for walk in walks]
        for index, told in enumerate(areas_told):
            self.assertEqual(walk_area(segments, points, index), (told.numerator, told.denominator))
        self.check_euler(places, pairs, walks, areas_told)

    def check_euler(self, places, pairs, walks, areas_told):
        """Of what hangs together: V - E + W is 2, and just one walk has an area up to 0."""
        group = oracle.hanging(len(places), pairs)
        for name in {group[low] for low, _ in pairs}:
            mine = [index for index, walk in enumerate(walks) if group[pairs[walk[0] // 2][0]] == name]
            edges = sum(1 for low, _ in pairs if group[low] == name)
            self.assertEqual(group.count(name) - edges + len(mine), 2)
            self.assertEqual(sum(1 for index in mine if areas_told[index] <= 0), 1)

    def test_few_segments_and_points(self):
        for seed in range(120):
            self.check(some_segments(seed, seed % 7, 4), some_points(seed, seed % 4, 3))

    def test_many_segments(self):
        for seed in range(4):
            self.check(some_segments(seed, 9 + seed, 7), some_points(seed, 5, 7))

    def test_rows_of_24(self):
        segments, points = some_segments(5, 24, 3), some_points(5, 24, 3)
        self.check(segments, points)


class TheWayInWhichItIsTold(unittest.TestCase):

    def test_the_order_of_what_is_given_does_not_matter(self):
        segments, points = some_segments(3, 10, 5), some_points(3, 6, 5)
        turned_round = tuple(segment[::-1] for segment in segments[::-1])
        for function in (vertices_of, edges_of, turns_of, walks_of):
            self.assertEqual(function(segments, points), function(turned_round, points[::-1]))

    def test_rows_are_tuples_throughout(self):
        for value in (vertices_of(SQUARE, ()), edges_of(SQUARE, ()), turns_of(SQUARE, ()), walks_of(SQUARE, ()),
                      walk_area(SQUARE, (), 0)):
            self.assertIsInstance(value, tuple)
            for part in value:
                self.assertIsInstance(part, (tuple, int))


if __name__ == "__main__":
    unittest.main()
