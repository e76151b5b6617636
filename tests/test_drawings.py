import unittest
from fractions import Fraction

import oracle
import slabs
from helpers import SQUARE, at, line, ring_of, some_points, some_segments
from bentalike.cuts import edges_of, vertices_of, walk_area, walks_of
from bentalike.drawings import cell_at, does_lie_at, drawing_of, how_many, point_in

GREAT = 10 ** 390


def box(low, high):
    """The segments of a square from (low, low) to (high, high)."""
    return ring_of((low, low), (high, low), (high, high), (low, high))


def cells(segments, points):
    vertices, edges, faces = how_many(segments, points)
    return ([("vertex", index) for index in range(vertices)] + [("edge", index) for index in range(edges)]
            + [("face", index) for index in range(faces)])


class Faces(unittest.TestCase):

    def test_nothing_at_all(self):
        self.assertEqual(drawing_of((), ()), ((), (), (((), ()),)))
        self.assertEqual(how_many((), ()), (0, 0, 1))

    def test_lone_points(self):
        points = (at(1, 0), at(0, 0), at(1, 0))
        self.assertEqual(drawing_of((), points), ((at(0, 0), at(1, 0)), (), (((), (0, 1)),)))

    def test_a_drawing_has_the_vertices_and_edges_of_the_cut(self):
        for seed in range(10):
            segments, points = some_segments(seed, 6, 5), some_points(seed, 3, 5)
            vertices, edges, faces = drawing_of(segments, points)
            self.assertEqual(vertices, vertices_of(segments, points))
            self.assertEqual(edges, edges_of(segments, points))
            self.assertEqual(how_many(segments, points), (len(vertices), len(edges), len(faces)))

    def test_faces_in_faces_several_deep(self):
        segments = box(0, 9) + box(1, 8) + box(2, 7) + box(3, 6)
        _, _, faces = drawing_of(segments, (at(4, 4), at(Fraction(1, 2), 4), at(20, 20)))
        self.assertEqual([(len(walks), len(spots)) for walks, spots in faces], [(1, 1), (2, 1), (2, 0), (2, 0), (1, 1)])
        walks = walks_of(segments, (at(4, 4), at(Fraction(1, 2), 4), at(20, 20)))
        areas = {walk: walk_area(segments, (at(4, 4), at(Fraction(1, 2), 4), at(20, 20)), index)
                 for index, walk in enumerate(walks)}
        self.assertEqual([[areas[walk] for walk in told] for told, _ in faces],
                         [[(-81, 1)], [(81, 1), (-49, 1)], [(49, 1), (-25, 1)], [(25, 1), (-9, 1)], [(9, 1)]])

    def test_side_by_side_in_one_face(self):
        segments = box(0, 9) + box(1, 2) + box(3, 4) + (line(6, 6, 7, 7),)
        _, _, faces = drawing_of(segments, (at(8, 8), at(8, 1)))
        self.assertEqual([(len(walks), len(spots)) for walks, spots in faces], [(1, 0), (4, 2), (1, 0), (1, 0)])
        around = faces[1][0]
        self.assertEqual(list(around[1:]), sorted(around[1:]))

    def test_faces_come_by_the_least_darts_of_their_own_walks(self):
        for seed in range(20):
            _, _, faces = drawing_of(some_segments(seed, 8, 4), ())
            owns = [walks[0] for walks, _ in faces[1:]]
            self.assertEqual(owns, sorted(owns))

    def test_a_lone_point_on_an_edge_or_at_a_vertex_is_no_spot(self):
        _, edges, faces = drawing_of(SQUARE, (at(1, 0), at(0, 0)))
        self.assertEqual(len(edges), 5)
        self.assertEqual([spots for _, spots in faces], [(), ()])

    def test_whiskers_inside_and_outside(self):
        inside, outside = line(0, 0, 1, 1), line(2, 2, 3, 3)
        _, _, faces = drawing_of(SQUARE + (inside, outside), ())
        self.assertEqual([[len(walk) for walk in walks] for walks, _ in faces], [[6], [6]])

    def test_a_face_that_touches_itself(self):
        # A square within a square that has one corner on it: the face between has one walk.
        segments = box(0, 4) + ring_of((0, 0), (2, 1), (1, 2))
        _, _, faces = drawing_of(segments, ())
        self.assertEqual([[len(walk) for walk in walks] for walks, _ in faces], [[4], [7], [3]])
        apart = box(0, 4) + ring_of((1, 1), (2, 1), (1, 2))
        self.assertEqual([len(walks) for walks, _ in drawing_of(apart, ())[2]], [1, 2, 1])

    def test_two_squares_that_touch_from_outside_have_one_walk_around(self):
        _, _, faces = drawing_of(box(0, 1) + box(1, 2), ())
        self.assertEqual([[len(walk) for walk in walks] for walks, _ in faces], [[8], [4], [4]])

    def test_a_notch_is_not_inside(self):
        notched = ring_of((0, 0), (9, 0), (9, 9), (5, 1), (0, 9))
        _, _, faces = drawing_of(notched + (line(5, 3, 5, 4),), (at(5, 5),))
        self.assertEqual([(len(walks), len(spots)) for walks, spots in faces], [(2, 1), (1, 0)])

    def test_what_lies_at_the_height_of_vertices(self):
        # The ray straight right goes through vertices, from which edges go up, down, or both.
        saw = ring_of((0, 0), (2, 2), (4, 0), (6, 2), (8, 0), (8, 4), (0, 4))
        for point, spots in ((at(1, 2), [0, 1]), (at(Fraction(1, 2), 0), [1, 0]), (at(-1, 4), [1, 0]),
                             (at(-1, 0), [1, 0]), (at(4, 2), [0, 1]), (at(7, 2), [0, 1]), (at(4, 1), [0, 1])):
            _, _, faces = drawing_of(saw, (point,))
            self.assertEqual([len(told) for _, told in faces], spots, point)

    def test_great_numbers(self):
        inner = Fraction(1, GREAT)
        segments = box(0, GREAT) + box(1, 1 + inner)
        self.assertEqual([len(walks) for walks, _ in drawing_of(segments, ())[2]], [1, 2, 1])
        self.assertEqual(cell_at(segments, (), at(1 + inner / 2, 1 + inner / 3)), ("face", 2))
        self.assertEqual(cell_at(segments, (), at(1 - inner, 1)), ("face", 1))

    def test_rows_of_24(self):
        lines = tuple(line(0, k, 13, k) for k in range(12)) + tuple(line(k, 0, k, 11) for k in range(12))
        points = tuple(at(Fraction(1, 2) + k, Fraction(1, 2)) for k in range(13)) + (at(0, 0),) * 11
        vertices, edges, faces = drawing_of(lines, points)
        self.assertEqual((len(vertices), len(edges), len(faces)), (144 + 12 + 13, 2 * 12 * 11 + 12, 122))
        self.assertEqual(len(faces[0][1]), 2)


class Cells(unittest.TestCase):

    def test_on_vertices_edges_in_faces_and_far_away(self):
        segments = box(0, 4) + box(1, 3)
        told = (((0, 0), ("vertex", 0)), ((4, 4), ("vertex", 7)), ((1, 1), ("vertex", 2)), ((2, 0), ("edge", 1)),
                ((0, 1), ("edge", 0)), ((2, 2), ("face", 2)), ((Fraction(1, 2), 2), ("face", 1)), ((4, 5), ("face", 0)),
                ((-GREAT, GREAT), ("face", 0)), ((5, 4), ("face", 0)), ((-1, 0), ("face", 0)))
        for place, cell in told:
            self.assertEqual(cell_at(segments, (), at(*place)), cell, place)

    def test_lone_points_are_vertices(self):
        points = (at(1, 1), at(1, 0))
        self.assertEqual(cell_at(SQUARE, points, at(1, 1)), ("vertex", 3))
        self.assertEqual(cell_at(SQUARE, points, at(1, 0)), ("vertex", 2))
        self.assertEqual(cell_at(SQUARE, points, at(1, Fraction(1, 2))), ("face", 1))

    def test_nothing_at_all(self):
        self.assertEqual(cell_at((), (), at(3, 3)), ("face", 0))
        self.assertEqual(point_in((), (), ("face", 0))[0][1] > 0, True)

    def test_edges_that_share_their_lesser_vertex(self):
        segments = (line(0, 0, 4, 0), line(0, 0, 3, 9), line(0, 0, 2, 1), line(0, 0, 4, 4))
        for place in ((1, 0), (1, 3), (1, Fraction(1, 2)), (1, 1), (3, 3), (Fraction(7, 2), 0)):
            kind, index = cell_at(segments, (), at(*place))
            low, high = edges_of(segments, ())[index]
            vertices = vertices_of(segments, ())
            self.assertEqual(kind, "edge")
            self.assertTrue(oracle.is_on((oracle.exact(vertices[low]), oracle.exact(vertices[high])), place))

    def test_a_place_in_a_face_is_on_nothing_within_it(self):
        for lone in (at(2, 2), at(2, 1), at(2, Fraction(1, 2)), at(1, 2)):
            self.assertEqual(cell_at(box(0, 4), (lone,), point_in(box(0, 4), (lone,), ("face", 1))), ("face", 1))
        for inner in (line(2, 1, 2, 3), line(1, 2, 3, 2), line(2, 2, 4, 4), line(0, 1, 3, 2), line(1, 1, 3, 3)):
            segments = box(0, 4) + (inner,)
            self.assertEqual(cell_at(segments, (), point_in(segments, (), ("face", 1))), ("face", 1))

    def test_each_place_is_in_the_cell_for_which_it_is_told(self):
        for seed in range(25):
            segments, points = some_segments(seed, seed % 9, 5), some_points(seed, seed % 4, 5)
            for cell in cells(segments, points):
                place = point_in(segments, points, cell)
                self.assertEqual(cell_at(segments, points, place), cell)


class LiesAt(unittest.TestCase):

    def test_a_vertex_at_edges_and_faces(self):
        segments = box(0, 4) + (line(1, 1, 2, 2),)
        points = (at(3, 3), at(9, 9))
        self.assertIs(does_lie_at(segments, points, ("vertex", 0), ("edge", 0)), True)
        self.assertIs(does_lie_at(segments, points, ("vertex", 0), ("edge", 2)), False)
        self.assertIs(does_lie_at(segments, points, ("vertex", 0), ("face", 0)), True)
        self.assertIs(does_lie_at(segments, points, ("vertex", 0), ("face", 1)), True)
        self.assertIs(does_lie_at(segments, points, ("vertex", 2), ("face", 0)), False)
        self.assertIs(does_lie_at(segments, points, ("vertex", 2), ("face", 1)), True)
        for vertex, face in ((4, 1), (7, 0)):
            for other in (0, 1):
                self.assertIs(does_lie_at(segments, points, ("vertex", vertex), ("face", other)), other == face)

    def test_an_edge_at_faces(self):
        segments = box(0, 4) + (line(1, 1, 2, 2),)
        edges = edges_of(segments, ())
        whisker = edges.index((2, 3))
        self.assertIs(does_lie_at(segments, (), ("edge", whisker), ("face", 1)), True)
        self.assertIs(does_lie_at(segments, (), ("edge", whisker), ("face", 0)), False)
        self.assertIs(does_lie_at(segments, (), ("edge", 0), ("face", 1)), True)
        self.assertIs(does_lie_at(segments, (), ("edge", 0), ("face", 0)), True)

    def test_a_cell_lies_at_greater_kinds_alone(self):
        kinds = ("vertex", "edge", "face")
        told = cells(SQUARE, (at(1, 1),))
        for cell in told:
            for other in told:
                if kinds.index(cell[0]) >= kinds.index(other[0]):
                    self.assertIs(does_lie_at(SQUARE, (at(1, 1),), cell, other), False)


class AsTheOracleTells(unittest.TestCase):

    def check(self, segments, points):
        lines = [tuple(oracle.exact(end) for end in segment) for segment in segments]
        places = oracle.vertices(lines, [oracle.exact(point) for point in points])
        pairs = oracle.edges(lines, places)
        walks = oracle.walks(oracle.turns(places, pairs), pairs)
        areas = [oracle.area(places, pairs, walk) for walk in walks]
        told, numbers, found = slabs.faces(places, pairs, walks, areas)
        self.assertEqual(drawing_of(segments, points)[2], told)
        self.check_slabs(segments, points, numbers, found)
        self.check_near(segments, points, places, pairs, numbers, found)

    def check_slabs(self, segments, points, numbers, found):
        """Each piece of a slab is in the face to which it is joined."""
        for slab, gap in found.pieces:
            x = found.middles[slab]
            low, high = found.bounds((slab, gap), x)
            told = ("face", numbers[found.head((slab, gap))])
            self.assertEqual(cell_at(segments, points, at(x, (low + high) / 2)), told)

    def check_near(self, segments, points, places, pairs, numbers, found):
        """A cell lies at the faces on both sides of its darts, and a spot at that around it."""
        for edge, ends in enumerate(pairs):
            near = {numbers[found.left_of(2 * edge)], numbers[found.left_of(2 * edge + 1)]}
            for face in numbers.values():
                self.assertEqual(does_lie_at(segments, points, ("edge", edge), ("face", face)), face in near)
            for vertex in range(len(places)):
                self.assertEqual(does_lie_at(segments, points, ("vertex", vertex), ("edge", edge)), vertex in ends)
        for vertex, place in enumerate(places):
            near = {numbers[found.left_of(dart)] for edge, ends in enumerate(pairs) if vertex in ends
                    for dart in (2 * edge, 2 * edge + 1)} or {numbers[found.face_at(place)]}
            for face in numbers.values():
                self.assertEqual(does_lie_at(segments, points, ("vertex", vertex), ("face", face)), face in near)

    def test_few_segments_and_points(self):
        for seed in range(60):
            self.check(some_segments(seed, seed % 6, 4), some_points(seed, seed % 5, 4))

    def test_more_segments(self):
        for seed in range(3):
            self.check(some_segments(seed + 100, 6, 9), some_points(seed, 3, 9))


if __name__ == "__main__":
    unittest.main()
