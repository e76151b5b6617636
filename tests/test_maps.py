import random
import unittest

import charts
from charts import A, ALL, B, C, CUT, DISC, EMPTY, EYE, LOOP, NESTED, NONE, RINGS, STICK
from helpers import at, failure
from test_scenes import some_scene
from bentalike import errors
from bentalike.maps import dart_behind, face_around, is_map, left_of, parts_in, turned
from bentalike.scenes import drawing_in, is_scene

GREAT = 10 ** 500


def but(chart, place, value):
    """The map with the value at a place, told by indexes from outside in, in the place of what is there."""
    if not place:
        return value
    return chart[:place[0]] + (but(chart[place[0]], place[1:], value),) + chart[place[0] + 1:]


def places_in(value):
    """All places in nested tuples, told by indexes from outside in."""
    found = [()]
    if isinstance(value, tuple):
        for index, part in enumerate(value):
            found += [(index,) + place for place in places_in(part)]
    return found


def part_at(value, place):
    for index in place:
        value = value[index]
    return value


def maps_of_scenes(many):
    """Maps of the plans of scenes, with their scenes."""
    chance = random.Random(12)
    found = []
    while len(found) < many:
        scene = some_scene(chance, 3, 5)
        if is_scene(scene):
            found.append((scene, charts.map_of_scene(scene)))
    return found


class Form(unittest.TestCase):

    def test_sound_ones(self):
        for chart in ALL:
            self.assertIs(is_map(chart), True)

    def test_other_values(self):
        for value in (None, True, 0, "", "map", (), (1, 2, 3, 4, 5), [], {}, ((),) * 5, ((),) * 4, EMPTY + ((),),
                      EMPTY[:4], list(EMPTY), object(), (None,) * 5, ("",) * 5, b"12345"):
            self.assertIs(is_map(value), False)

    def test_a_list_or_another_value_in_any_place(self):
        for chart in ALL:
            for place in places_in(chart):
                part = part_at(chart, place)
                values = [None, "x", "", b"A", -1, GREAT, {}, ((),)]
                if isinstance(part, tuple):
                    values += [list(part), 0, part + (0,), part + (None,), part + ("E",)]
                if isinstance(part, int):
                    values += [bool(part), str(part), (part,), -part - 1]
                for value in values:
                    self.assertIs(is_map(but(chart, place, value)), False, (chart, place, value))

    def test_an_index_just_beyond_the_last_one(self):
        for place in ((1, 0, 0), (1, 0, 1)):
            self.assertIs(is_map(but(STICK, place, 2)), False)
        for chart, place, beyond in ((CUT, (2, 0, 2), 6), (CUT, (4, 1, 1, 0, 1), 6), (EYE, (4, 1, 2, 0), 2),
                                     (EYE, (3, 0, 1), 2), (DISC, (3, 0, 2), 2), (DISC, (3, 0, 1), 2)):
            self.assertIs(is_map(but(chart, place, beyond)), False)
            self.assertIs(is_map(but(chart, place, -1)), False)

    def test_labels(self):
        for place in ((0, 0), (1, 0, 2), (4, 1, 0)):
            for label in (NONE, A, ("D",), ("A", "B", "C", "D"), ("B", "D")):
                self.assertIs(is_map(but(CUT, place, label)), True)
            for label in (("A", "A"), ("B", "A"), ("E",), ("AB",), "A", ("a",), ("",), (None,), ["A"], (("A",),), True):
                self.assertIs(is_map(but(CUT, place, label)), False)
        for label in (A, ["A"], ("A", "A")):
            self.assertIs(is_map(but(DISC, (3, 0, 0), label)), label == A)

    def test_the_outer_face_has_no_names(self):
        for chart in ALL:
            self.assertIs(is_map(but(chart, (4, 0, 0), A)), False)

    def test_there_is_a_face(self):
        self.assertIs(is_map(((), (), (), (), ())), False)

    def test_one_turn_for_each_special(self):
        self.assertIs(is_map(but(EYE, (2,), ((),))), False)
        self.assertIs(is_map(but(EYE, (2,), ((), (), ()))), False)
        self.assertIs(is_map(but(STICK, (2,), ((0,), (1,), ()))), False)


class Bounds(unittest.TestCase):

    def test_3000_and_3001_spots(self):
        for many in (2999, 3000):
            chart = ((A,) * many, (), ((),) * many, (), ((NONE, (), tuple(range(many))),))
            self.assertIs(is_map(chart), many == 2999)

    def test_3000_and_3001_arcs_and_specials(self):
        for extra in (0, 1):
            specials = 1000 + extra
            arcs = tuple((0, special, A) for special in range(1, 1000)) + ((0, 0, B),) * 499
            darts = [(2 * arc, 2 * arc + 1) for arc in range(999, 1498)]
            turns = ((tuple(range(0, 1998, 2)) + sum(darts, ())),) + tuple((2 * arc + 1,) for arc in range(999))
            bare = ((A,) * specials, arcs, turns + ((),) * extra)
            outer = [0]
            while charts.behind(bare, outer[-1]) != 0:
                outer.append(charts.behind(bare, outer[-1]))
            # The face within each arc from special 0 to itself, and that within a ring.
            rest = tuple((NONE, ((first,),), ()) for first, _ in darts)
            faces = ((NONE, (tuple(outer),), (1000,) * extra),) + rest + ((A, (), ()),)
            chart = bare + (((C, len(faces) - 1, 0),), faces)
            self.assertEqual(sum(len(chart[row]) for row in (0, 1, 3, 4)), 3000 + extra)
            self.assertIs(is_map(chart), extra == 0)

    def test_rings_in_rings_as_deep_as_can_be(self):
        for many in (1499, 1500):
            rings = tuple((A, ring + 1, ring) for ring in range(many))
            chart = ((), (), (), rings, ((NONE, (), ()),) * (many + 1))
            self.assertIs(is_map(chart), many == 1499)

    def test_nothing_is_made_of_too_many_faces(self):
        self.assertIs(is_map(((), (), (), (), ((NONE, (), ()),) * 3001)), False)
        self.assertIs(is_map(((), (), (), ((A, 1, 0),) * 3000, DISC[4])), False)


class Sound(unittest.TestCase):

    def test_each_dart_stands_once_with_the_special_that_it_leaves(self):
        for turns in (((1,), (0,)), ((0, 1), ()), ((0,), (0,)), ((0,), ()), ((0, 0), (1,)), ((), ()), ((0,), (1, 0))):
            self.assertIs(is_map(but(STICK, (2,), turns)), False)

    def test_a_turn_begins_with_its_least_dart(self):
        self.assertIs(is_map(but(CUT, (2, 0), (4, 2, 0))), False)
        self.assertIs(is_map(but(CUT, (2, 1), (3, 5, 1))), False)

    def test_a_walk_begins_with_its_least_dart(self):
        self.assertIs(is_map(but(STICK, (4, 0, 1), ((1, 0),))), False)
        self.assertIs(is_map(but(CUT, (4, 1, 1), ((2, 1),))), False)

    def test_walks_and_spots_ascend(self):
        self.assertIs(is_map(but(NESTED, (4, 1, 1), ((4, 5), (1, 2)))), False)
        two = ((A, B), (), ((), ()), (), ((NONE, (), (0, 1)),))
        self.assertIs(is_map(two), True)
        self.assertIs(is_map(but(two, (4, 0, 2), (1, 0))), False)
        self.assertIs(is_map(but(two, (4, 0, 2), (0, 0, 1))), False)

    def test_a_walk_in_two_faces_or_in_none(self):
        self.assertIs(is_map(but(CUT, (4, 2, 1), ((1, 2), (3, 4)))), False)
        self.assertIs(is_map(but(CUT, (4, 2, 1), ((1, 2),))), False)
        self.assertIs(is_map(but(CUT, (4, 2, 1), ())), False)
        self.assertIs(is_map(but(CUT, (4, 2, 1), ((3,),))), False)
        self.assertIs(is_map(but(CUT, (4, 2, 1), ((), (3, 4)))), False)

    def test_a_spot_in_two_faces_or_in_none(self):
        self.assertIs(is_map(but(EYE, (4, 0, 2), (0, 1))), False)
        self.assertIs(is_map(but(EYE, (4, 0, 2), ())), False)
        self.assertIs(is_map(but(NESTED, (4, 1, 2), (0,))), False)
        self.assertIs(is_map(but(EYE, (4,), ((NONE, (), (1,)), (NONE, (), (0,))))), True)

    def test_two_walks_of_one_net_in_one_face(self):
        self.assertIs(is_map(but(CUT, (4,), (CUT[4][0], (A, ((1, 2), (3, 4)), ())))), False)
        self.assertIs(is_map(but(LOOP, (4,), ((NONE, ((0,), (1,)), (1,)),))), False)

    def test_specials_and_walks_are_2_more_than_arcs(self):
        # The turn of one end the other way round: all six darts are in one walk.
        self.assertIs(is_map(CUT[:2] + (((0, 2, 4), (1, 3, 5)), (), ((NONE, ((0, 5, 2, 1, 4, 3),), ()),))), False)
        # Two arcs at one special that cross there: one walk.
        crossed = ((A,), ((0, 0, A), (0, 0, A)), ((0, 2, 1, 3),), (), ())
        walks = tuple(charts.walks_of(crossed))
        self.assertEqual(len(walks), 1)
        self.assertIs(is_map(crossed[:4] + (((NONE, walks, ()),),)), False)

    def test_each_net_by_itself(self):
        # A net whose two arcs cross at its special, beside one that is right.
        arcs = ((0, 0, A), (0, 0, A), (1, 1, A), (1, 1, A))
        bare = ((A, A), arcs, ((0, 2, 1, 3), (4, 5, 6, 7)), ())
        walks = charts.walks_of(bare)
        outer = [walk for walk in walks if 0 in walk] + [walk for walk in walks if len(walk) == 2]
        rest = [walk for walk in walks if walk not in outer]
        faces = ((NONE, tuple(sorted(outer)), ()),) + tuple((A, (walk,), ()) for walk in rest)
        self.assertIs(is_map(bare + (faces,)), False)

    def test_a_ring_inside_out(self):
        self.assertIs(is_map(but(DISC, (3, 0), (A, 0, 1))), False)
        self.assertIs(is_map(but(EYE, (3, 0), (A, 0, 1))), False)
        for ring in range(4):
            label, within, around = RINGS[3][ring]
            self.assertIs(is_map(but(RINGS, (3, ring), (label, around, within))), False)

    def test_a_ring_with_one_face_on_both_sides(self):
        self.assertIs(is_map(but(DISC, (3, 0), (A, 0, 0))), False)
        self.assertIs(is_map(((), (), (), ((A, 0, 0),), DISC[4][:1])), False)
        self.assertIs(is_map(but(DISC, (3, 0), (A, 1, 1))), False)

    def test_a_face_to_which_one_does_not_come(self):
        for chart in ALL:
            self.assertIs(is_map(chart[:4] + (chart[4] + ((A, (), ()),),)), False)

    def test_a_part_to_which_one_does_not_come(self):
        # Two rings between faces 1 and 2, or a spot in a face to which one does not come.
        self.assertIs(is_map(((), (), (), ((A, 1, 2), (A, 2, 1)), ((NONE, (), ()),) * 3)), False)
        self.assertIs(is_map(((A,), (), ((),), (), ((NONE, (), ()), (NONE, (), (0,))))), False)
        loop_away = but(LOOP, (4,), ((NONE, (), ()), (A, ((0,),), (1,)), (A, ((1,),), ())))
        self.assertIs(is_map(loop_away), False)

    def test_a_face_to_which_one_comes_in_two_ways(self):
        self.assertIs(is_map(but(DISC, (3,), ((A, 1, 0), (B, 1, 0)))), False)
        both = but(NESTED, (3, 0), (C, 1, 0))
        self.assertIs(is_map(both[:4] + (both[4][:2],)), False)

    def test_a_net_may_come_by_any_of_its_walks(self):
        for first in range(3):
            faces = [CUT[4][first][1]] + [told for _, told, _ in CUT[4][:first] + CUT[4][first + 1:]]
            self.assertIs(is_map(CUT[:4] + (tuple((NONE, walks, ()) for walks in faces),)), True)

    def test_the_map_of_each_plan_is_sound(self):
        for _, chart in maps_of_scenes(60):
            self.assertIs(is_map(chart), True)

    def test_as_the_oracle_tells(self):
        chance = random.Random(3)
        told = {True: 0, False: 0}
        for _ in range(6000):
            chart = charts.random_map(chance, chance.randrange(4), chance.randrange(4), chance.randrange(3))
            truth = charts.is_sound(chart)
            told[truth] += 1
            self.assertIs(is_map(chart), truth, chart)
        self.assertGreater(min(told.values()), 100)


class Darts(unittest.TestCase):

    def test_those_behind_make_the_walks(self):
        for chart in ALL + tuple(chart for _, chart in maps_of_scenes(10)):
            for face, (_, walks, _) in enumerate(chart[4]):
                for walk in walks:
                    self.assertEqual([dart_behind(chart, dart) for dart in walk], list(walk[1:] + walk[:1]))
                    self.assertEqual([left_of(chart, dart) for dart in walk], [face] * len(walk))

    def test_as_the_document_words_it(self):
        for chart in ALL:
            for dart in range(2 * len(chart[1])):
                self.assertEqual(dart_behind(chart, dart), charts.behind(chart, dart))

    def test_the_last_one_is_ahead_of_the_first_one(self):
        self.assertEqual([dart_behind(CUT, dart) for dart in range(6)], [5, 2, 1, 4, 3, 0])
        self.assertEqual([dart_behind(LOOP, dart) for dart in (0, 1)], [0, 1])

    def test_no_dart(self):
        for function in (dart_behind, left_of):
            for chart, wrong in ((CUT, 6), (CUT, -1), (DISC, 0), (EMPTY, 0), (STICK, True), (STICK, None), (STICK, 2)):
                error = failure(function, chart, wrong)
                self.assertIs(error.__class__, errors.InvalidDart)
                self.assertIs(error.given, wrong)


class Turned(unittest.TestCase):

    def all_maps(self):
        return ALL + tuple(chart for _, chart in maps_of_scenes(25))

    def test_it_is_a_map_and_turned_again_the_same(self):
        for chart in self.all_maps():
            self.assertIs(is_map(turned(chart)), True)
            self.assertEqual(turned(turned(chart)), chart)

    def test_all_else_is_as_it_was(self):
        for chart in self.all_maps():
            other = turned(chart)
            self.assertEqual((other[0], other[1], other[3]), (chart[0], chart[1], chart[3]))
            self.assertEqual([(label, spots) for label, _, spots in other[4]],
                             [(label, spots) for label, _, spots in chart[4]])

    def test_turns_go_the_other_way_round_from_the_least_dart_on(self):
        for chart in self.all_maps():
            for turn, other in zip(chart[2], turned(chart)[2]):
                self.assertEqual(charts.from_least(turn[::-1]), other)

    def test_walks_are_those_of_the_opposites(self):
        for chart in self.all_maps():
            other = turned(chart)
            self.assertEqual(charts.walks_of(other), sorted(walk for _, walks, _ in other[4] for walk in walks))
            for (_, walks, _), (_, other_walks, _) in zip(chart[4], other[4]):
                self.assertEqual(sorted(sorted(dart ^ 1 for dart in walk) for walk in walks),
                                 sorted(sorted(walk) for walk in other_walks))
                self.assertEqual(list(other_walks), sorted(other_walks))

    def test_some_by_hand(self):
        self.assertEqual(turned(CUT)[2], ((0, 2, 4), (1, 5, 3)))
        self.assertEqual([walks for _, walks, _ in turned(CUT)[4]], [((1, 4),), ((0, 3),), ((2, 5),)])
        self.assertEqual(turned(LOOP)[4], ((NONE, ((1,),), ()), (A, ((0,),), (1,))))
        for chart in (EMPTY, DISC, EYE, RINGS, STICK):
            self.assertEqual(turned(chart), chart)

    def test_the_map_of_a_plan_seen_from_behind(self):
        for scene, chart in maps_of_scenes(25):
            mirrored = tuple((name, mirror(figure)) for name, figure in scene)
            other = charts.map_of_scene(mirrored)
            vertices, edges, _ = drawing_in(scene)
            other_vertices, other_edges, _ = drawing_in(mirrored)
            specials = [other_vertices.index(mirror(vertex)) for vertex in vertices]
            goes = {}
            for edge, (low, high) in enumerate(edges):
                ends = specials[low], specials[high]
                number = 2 * other_edges.index(tuple(sorted(ends)))
                goes[2 * edge] = number if ends[0] < ends[1] else number + 1
                goes[2 * edge + 1] = goes[2 * edge] ^ 1
            for special, turn in enumerate(turned(chart)[2]):
                told = charts.from_least([goes[dart] for dart in turn])
                self.assertEqual(told, other[2][specials[special]])
            walks = {(label, charts.from_least([goes[dart] for dart in walk]))
                     for label, row, _ in turned(chart)[4] for walk in row}
            self.assertEqual(walks, {(label, walk) for label, row, _ in other[4] for walk in row})


def mirror(value):
    """The figure, or point, with left and right exchanged."""
    if isinstance(value[0], tuple) and isinstance(value[0][0], int):
        return (-value[0][0], value[0][1]), value[1]
    return tuple(part if isinstance(part, str) else mirror(part) for part in value)


class Parts(unittest.TestCase):

    def test_what_lies_in_each_face(self):
        told = (
            (EMPTY, [()]),
            (DISC, [(("ring", 0),), ()]),
            (STICK, [(("special", 0),)]),
            (CUT, [(("special", 0),), (), ()]),
            (EYE, [(("ring", 0), ("special", 0)), (("special", 1),)]),
            (LOOP, [(("special", 0),), (("special", 1),)]),
            (RINGS, [(("ring", 0), ("ring", 3)), (("ring", 1),), (("ring", 2),), (), ()]),
            (NESTED, [(("special", 0),), (("ring", 0), ("special", 2)), ()]),
        )
        for chart, rows in told:
            self.assertEqual([parts_in(chart, face) for face in range(len(chart[4]))], rows)

    def test_parts_ascend_as_numbers(self):
        many = 12
        chart = ((A,) * many, (), ((),) * many, (), ((NONE, (), tuple(range(many))),))
        self.assertEqual(parts_in(chart, 0), tuple(("special", special) for special in range(many)))

    def test_each_part_lies_in_the_one_face_that_is_told_around_it(self):
        for chart in ALL + tuple(chart for _, chart in maps_of_scenes(25)):
            found = []
            for face in range(len(chart[4])):
                for part in parts_in(chart, face):
                    self.assertEqual(face_around(chart, part), face)
                    found.append(part)
            self.assertEqual(len(found), len(set(found)))
            self.assertEqual(len([part for part in found if part[0] == "ring"]), len(chart[3]))

    def test_a_ring_lies_in_what_is_around_it(self):
        for ring, (_, _, around) in enumerate(RINGS[3]):
            self.assertEqual(face_around(RINGS, ("ring", ring)), around)

    def test_a_net_of_which_the_outer_walk_is_not_the_first_one(self):
        faces = ((NONE, ((3, 4),), ()), (A, ((0, 5),), ()), (A, ((1, 2),), ()))
        chart = CUT[:4] + (faces,)
        self.assertEqual([parts_in(chart, face) for face in range(3)], [(("special", 0),), (), ()])
        self.assertEqual(face_around(chart, ("special", 0)), 0)

    def test_far_in(self):
        rings = tuple((A, ring + 1, ring) for ring in range(1499))
        chart = ((), (), (), rings, ((NONE, (), ()),) * 1500)
        self.assertEqual(face_around(chart, ("ring", 1498)), 1498)
        self.assertEqual(parts_in(chart, 1499), ())

    def test_no_part(self):
        wrong = (("special", 1), ("special", 3), ("special", 4), ("special", -1), ("special", True), ("ring", 1),
                 ("ring", False), ("ring", -1), ("face", 0), ("arc", 0), ["special", 0], ("special", 0, 0),
                 ("special",), ("special", "0"), "special", None, 0, (0, "special"), ("special", (0,)), (b"special", 0),
                 ("special", [0]), (["special"], 0), ("ring", {}), ("special", GREAT))
        for part in wrong:
            error = failure(face_around, NESTED, part)
            self.assertIs(error.__class__, errors.InvalidPart)
            self.assertIs(error.given, part)
        self.assertEqual(face_around(NESTED, ("special", 2)), 1)

    def test_no_face(self):
        for face in (2, -1, True, False, None, "0", (0,), GREAT):
            error = failure(parts_in, DISC, face)
            self.assertIs(error.__class__, errors.InvalidFace)
            self.assertIs(error.given, face)


class Specials(unittest.TestCase):

    def test_points_are_mirrored_as_the_tests_need_it(self):
        self.assertEqual(mirror(("path", (at(1, 2), at(-3, 0)))), ("path", (at(-1, 2), at(3, 0))))


if __name__ == "__main__":
    unittest.main()
