import random
import unittest
from fractions import Fraction

import charts
from charts import A, AB, ALL, B, C, CUT, DISC, EMPTY, EYE, LOOP, NONE, STICK
from growing import grown, some_maps
from helpers import at, failure
from test_codes import ARMS, wheel
from test_maps import but, part_at, places_in
from test_needless import flower, star
from test_scenes import some_scene
from bentalike import errors
from bentalike.codes import code
from bentalike.maps import is_map, turned
from bentalike.needless import least, least_map
from bentalike.plans import drawn, is_plan, plan_of
from bentalike.scenes import drawing_in, is_scene, label_at, labels_in
from bentalike.drawings import point_in
from bentalike.figures import segments_of, spots_of

BLOCK = ("area", (at(0, 0), at(2, 0), at(2, 2), at(0, 2)))
HOME = (("A", BLOCK), ("B", ("either", ("spot", at(1, 1)), ("path", (at(3, 0), at(3, 3), at(4, 3))))))


def scenes(seed, many, deep=3, size=4):
    chance = random.Random(seed)
    found = []
    while len(found) < many:
        scene = some_scene(chance, deep, size)
        if is_scene(scene):
            found.append(scene)
    return found


class PlanOf(unittest.TestCase):

    def test_of_nothing_at_all(self):
        self.assertEqual(plan_of(()), (EMPTY, ()))

    def test_by_hand(self):
        chart, points = plan_of(HOME)
        self.assertEqual(points, (at(0, 0), at(0, 2), at(1, 1), at(2, 0), at(2, 2), at(3, 0), at(3, 3), at(4, 3)))
        self.assertEqual(chart[0], (A, A, AB, A, A, B, B, B))
        self.assertEqual(chart[1], ((0, 1, A), (0, 3, A), (1, 4, A), (3, 4, A), (5, 6, B), (6, 7, B)))
        self.assertEqual(chart[2], ((0, 2), (1, 4), (), (3, 6), (5, 7), (8,), (9, 10), (11,)))
        self.assertEqual(chart[3], ())
        self.assertEqual(chart[4], ((NONE, ((0, 4, 7, 3), (8, 10, 11, 9)), ()), (A, ((1, 2, 6, 5),), (2,))))

    def test_a_turn_begins_with_its_least_dart(self):
        chart, _ = plan_of((("A", ("either", ("path", (at(0, 0), at(1, 0))),
                                   ("path", (at(0, 2), at(0, 0), at(-1, 0))))),))
        self.assertIn((1, 4, 2), [chart[2][1]] + [charts.from_least(turn[::-1]) for turn in chart[2]])
        for scene in scenes(61, 40):
            for turn in plan_of(scene)[0][2]:
                self.assertEqual(turn, charts.from_least(turn))

    def test_walks_ascend(self):
        for scene in scenes(62, 60, 4, 6):
            _, _, faces = drawing_in(scene)
            for (_, walks, _), (told, _) in zip(plan_of(scene)[0][4], faces):
                self.assertEqual(walks, tuple(sorted(told)))

    def test_as_the_drawing_and_its_labels_tell(self):
        for scene in scenes(63, 60):
            chart, points = plan_of(scene)
            self.assertEqual(points, drawing_in(scene)[0])
            self.assertEqual(chart, charts.map_of_scene(scene))
            labels = labels_in(scene)
            self.assertEqual((chart[0], tuple(arc[2] for arc in chart[1]), tuple(face[0] for face in chart[4])), labels)

    def test_labels_are_those_of_places(self):
        for scene in scenes(64, 25):
            chart, points = plan_of(scene)
            lines = tuple(line for _, figure in scene for line in segments_of(figure))
            dots = tuple(dot for _, figure in scene for dot in spots_of(figure))
            for special, point in enumerate(points):
                self.assertEqual(chart[0][special], label_at(scene, point))
            for arc, told in enumerate(chart[1]):
                self.assertEqual(told[2], label_at(scene, point_in(lines, dots, ("edge", arc))))
            for face, told in enumerate(chart[4]):
                self.assertEqual(told[0], label_at(scene, point_in(lines, dots, ("face", face))))

    def test_its_map_is_sound_and_it_is_a_plan(self):
        for scene in scenes(65, 60):
            plan = plan_of(scene)
            self.assertIs(is_map(plan[0]), True)
            self.assertIs(is_plan(plan), True)


def moved(plan, special, point):
    return plan[0], plan[1][:special] + (point,) + plan[1][special + 1:]


class IsPlan(unittest.TestCase):

    def test_other_values(self):
        plan = plan_of(HOME)
        for value in (None, True, 0, "", "plan", (), [], {}, EMPTY, DISC, STICK, CUT, list(plan), plan[:1],
                      plan + ((),),
                      plan[::-1], (plan,), (list(plan[0]), plan[1]), (plan[0], list(plan[1])), (plan[0], None),
                      (plan[0], ()), (plan[0], plan[1][:-1]), (plan[0], plan[1] + (at(9, 9),)), (None, plan[1]),
                      (EMPTY, (at(0, 0),)), (EMPTY, None), (EMPTY, {}), (EMPTY, ""), object()):
            self.assertIs(is_plan(value), False)
        self.assertIs(is_plan((EMPTY, ())), True)

    def test_points_that_are_none(self):
        plan = plan_of(HOME)
        for special in range(8):
            (x, _), (y, _) = plan[1][special]
            for point in ((x, y), ((x, 0), (y, 1)), ((2 * x, 2), (y, 1)), [(x, 1), (y, 1)], ((x, 1),), None, "xy",
                          ((bool(x), 1), (y, 1)), ((x, True), (y, 1)), ((x, 1), (y, 1), (0, 1))):
                self.assertIs(is_plan(moved(plan, special, point)), False, point)

    def test_points_out_of_order_or_alike(self):
        plan = plan_of(HOME)
        for low in range(8):
            for high in range(low + 1, 8):
                points = list(plan[1])
                points[low], points[high] = points[high], points[low]
                self.assertIs(is_plan((plan[0], tuple(points))), False)
                self.assertIs(is_plan(moved(plan, low, plan[1][high])), False)

    def test_points_elsewhere(self):
        plan = plan_of(HOME)
        for special, point in ((0, at(-1, -1)), (2, at(1, 0.5)), (7, at(9, 9)), (5, at(2.5, -9)), (1, at(0, 20))):
            self.assertIs(is_plan(moved(plan, special, point)), True)
        # The spot on an edge, outside, on a vertex; a corner drawn over another edge.
        for special, point in ((2, at(1, 0)), (2, at(1, 2)), (2, at(1, 3)), (2, at(1, -1)), (3, at(2, 2.5)),
                               (0, at(3.5, 0)),
                               (4, at(2, 0)), (5, at(1, 1.5)), (6, at(3, 0)), (7, at(3, 1)), (1, at(0, -1))):
            self.assertIs(is_plan(moved(plan, special, point)), False, (special, point))

    def test_edges_that_cross(self):
        points = (at(0, 0), at(0, 2), at(2, 0), at(2, 2))
        bare = ((A,) * 4, ((0, 3, A), (1, 2, A)), ((0,), (2,), (3,), (1,)))
        chart = bare + ((), ((NONE, ((0, 1), (2, 3)), ()),))
        self.assertIs(is_map(chart), True)
        self.assertIs(is_plan((chart, points)), False)
        self.assertIs(is_plan((chart, (at(0, 0), at(0, 3), at(1, 3), at(2, 0)))), True)

    def test_an_edge_over_a_point(self):
        chart = ((A, A, A), ((0, 2, A),), ((0,), (), (1,)), (), ((NONE, ((0, 1),), (1,)),))
        self.assertIs(is_plan((chart, (at(0, 0), at(1, 0), at(2, 0)))), False)
        self.assertIs(is_plan((chart, (at(0, 0), at(1, 1), at(2, 0)))), True)

    def test_labels_may_be_others(self):
        plan = plan_of(HOME)
        for place in ((0, 3), (1, 2, 2), (4, 1, 0)):
            self.assertIs(is_plan((but(plan[0], place, ("B", "D")), plan[1])), True)
        self.assertIs(is_plan((but(plan[0], (4, 0, 0), A), plan[1])), False)

    def test_any_other_number(self):
        for plan in (plan_of(HOME), plan_of((("A", ("rim", BLOCK)), ("C", ("path", (at(0, 0), at(2, 2))))))):
            for place in places_in(plan[0]):
                part = part_at(plan[0], place)
                if isinstance(part, int):
                    for value in list(range(13)) + [-1, None, bool(part)]:
                        if value is not part:
                            self.assertIs(is_plan((but(plan[0], place, value), plan[1])), False, (place, value))
                if isinstance(part, tuple) and part:
                    self.assertIs(is_plan((but(plan[0], place, list(part)), plan[1])), False)

    def test_a_sound_map_that_is_not_so_in_the_drawing(self):
        chart, points = plan_of(HOME)
        # The spot in the other face, arcs in another order, from head to tail, one twice.
        other = but(chart, (4,), ((NONE, chart[4][0][1], (2,)), (A, chart[4][1][1], ())))
        self.assertIs(is_map(other), True)
        self.assertIs(is_plan((other, points)), False)
        bare = ((B, B), ((1, 0, B),), ((1,), (0,)), (), ((NONE, ((0, 1),), ()),))
        self.assertIs(is_map(bare), True)
        self.assertIs(is_plan((bare, (at(0, 0), at(1, 0)))), False)
        self.assertIs(is_plan((but(bare, (1,), ((0, 1, B),))[:2] + (((0,), (1,)),) + bare[3:], (at(0, 0), at(1, 0)))),
                      True)
        self.assertIs(is_plan((wheel((A, B)), (at(0, 0), at(1, 0)))), False)
        twice = ((B, B, B), ((1, 2, B), (0, 1, B)), ((2,), (0, 3), (1,)), (), ((NONE, ((0, 1, 3, 2),), ()),))
        self.assertIs(is_map(twice), True)
        self.assertIs(is_plan((twice, (at(0, 0), at(1, 0), at(2, 0)))), False)

    def test_faces_in_another_order(self):
        chart, points = plan_of((("A", BLOCK), ("B", ("path", (at(0, 0), at(2, 2))))))
        other = but(chart, (4,), (chart[4][0], chart[4][2], chart[4][1]))
        self.assertIs(is_plan((chart, points)), True)
        self.assertIs(is_map(other), True)
        self.assertIs(is_plan((other, points)), False)

    def test_another_face_outside(self):
        chart, points = plan_of((("A", BLOCK),))
        other = but(chart, (4,), ((NONE,) + chart[4][1][1:], (A,) + chart[4][0][1:]))
        self.assertIs(is_map(other), True)
        self.assertIs(is_plan((other, points)), False)

    def test_seen_from_behind(self):
        chart, points = plan_of((("A", ("either", ("path", (at(0, 0), at(1, 0))),
                                        ("path", (at(0, 2), at(0, 0), at(-1, 0))))),))
        self.assertIs(is_plan((turned(chart), points)), False)

    def test_rings_are_in_none(self):
        self.assertIs(is_plan((DISC, ())), False)
        self.assertIs(is_plan((EYE, (at(0, 0), at(1, 0)))), False)

    def test_maps_with_any_points(self):
        for chart in some_maps(66, 60, 6):
            points = tuple(at(special, special * special) for special in range(len(chart[0])))
            told = is_plan((chart, points))
            plain = all(tail < head for tail, head, _ in chart[1]) and not chart[3]
            self.assertTrue(not told or plain)


class Drawn(unittest.TestCase):

    def check_drawn(self, chart):
        plan = drawn(chart)
        self.assertIs(is_plan(plan), True)
        self.assertIs(is_map(plan[0]), True)
        self.assertEqual(plan[0][3], ())
        self.assertEqual(code(least(plan[0])), code(least(chart)))
        return plan

    def test_nothing_at_all(self):
        self.assertEqual(drawn(EMPTY), (EMPTY, ()))

    def test_maps_by_hand(self):
        for chart in ALL + (ARMS, star(A, (A, B, A)), flower(A, (B, C), (C, B)), flower(A, (A,), (B,)),
                            wheel((A, B, C, A))):
            self.check_drawn(chart)

    def test_grown_maps(self):
        for labels in ((NONE, A, B), (NONE,), (NONE, A, B, C, AB)):
            for chart in some_maps(67, 60, 22, labels):
                self.check_drawn(chart)

    def test_least_maps_of_scenes(self):
        for scene in scenes(68, 50):
            chart = least_map(scene)
            if sum(len(chart[row]) for row in (0, 1, 3)) <= 80:
                self.assertEqual(code(least(self.check_drawn(chart)[0])), code(chart))

    def test_rings_in_rings_and_side_by_side(self):
        for many in (1, 2, 40, 80):
            rings = tuple((A, ring + 1, ring) for ring in range(many))
            deep = ((), (), (), rings, ((NONE, (), ()),) + ((B, (), ()),) * many)
            self.check_drawn(deep)
            wide = ((), (), (), tuple((A, ring + 1, 0) for ring in range(many)), deep[4])
            self.check_drawn(wide)

    def test_arcs_with_both_ends_at_one_special(self):
        for many in (1, 2, 5, 79):
            self.check_drawn(flower(A, (A, B) * (many // 2) + (A,) * (many % 2), (C,) * many))
        nested = ((A,), ((0, 0, A), (0, 0, B), (0, 0, C)), ((0, 2, 4, 5, 3, 1),), ())
        walks = charts.walks_of(nested)
        self.assertEqual(len(walks), 4)
        for outer in range(4):
            rest = walks[:outer] + walks[outer + 1:]
            self.check_drawn(nested + (((NONE, (walks[outer],), ()),) + tuple((B, (walk,), ()) for walk in rest),))

    def test_several_arcs_between_the_same_two(self):
        for many in (1, 2, 3, 78):
            self.check_drawn(wheel((A, B, C) * (many // 3) + (A,) * (many % 3)))

    def test_parts_in_faces_of_parts_side_by_side(self):
        for seed in range(12):
            chart = self.full_of_parts(random.Random(seed))
            self.check_drawn(chart)

    def full_of_parts(self, chance):
        chart = grown(chance, 18)
        while sum(len(chart[row]) for row in (0, 1, 3)) > 80 or len(chart[4]) < 5:
            chart = grown(chance, 18)
        specials, arcs, turns, rings, faces = chart
        spots = [(label, walks, own + (len(specials) + face,)) for face, (label, walks, own) in enumerate(faces)]
        return specials + (C,) * len(faces), arcs, turns + ((),) * len(faces), rings, tuple(spots)

    def test_with_any_walk_of_a_net_outside(self):
        for first in range(3):
            walks = [walks for _, walks, _ in CUT[4]]
            walks = [walks[first]] + walks[:first] + walks[first + 1:]
            faces = tuple((label, row, ()) for label, row in zip((NONE, A, B), walks))
            self.check_drawn(CUT[:4] + (faces,))

    def test_80_and_81_specials(self):
        for many in (80, 81):
            spots = ((A,) * many, (), ((),) * many, (), ((NONE, (), tuple(range(many))),))
            self.check_bound(spots, many)

    def test_80_and_81_together(self):
        for spots in (0, 1):
            chart = grown(random.Random(3), 10)
            count = sum(len(chart[row]) for row in (0, 1, 3))
            faces = ((NONE, chart[4][0][1], chart[4][0][2] + tuple(range(len(chart[0]),
                    len(chart[0]) + 80 + spots - count))),)
            more = 80 + spots - count
            full = (chart[0] + (A,) * more, chart[1], chart[2] + ((),) * more, chart[3], faces + chart[4][1:])
            self.check_bound(full, 80 + spots)
        for arcs, rings in ((40, 39), (40, 40)):
            bare = flower(A, (A,) * arcs, (B,) * arcs)
            circles = tuple((B, len(bare[4]) + ring, 0) for ring in range(rings))
            self.check_bound(bare[:3] + (circles, bare[4] + ((C, (), ()),) * rings), 1 + arcs + rings)

    def check_bound(self, chart, many):
        self.assertIs(is_map(chart), True)
        self.assertEqual(sum(len(chart[row]) for row in (0, 1, 3)), many)
        if many <= 80:
            self.check_drawn(chart)
        else:
            error = failure(drawn, chart)
            self.assertEqual((error.__class__, error.given), (errors.TooMany, many))

    def test_that_it_is_a_map_is_asked_first(self):
        spots = ((A,) * 90, (), ((),) * 90, (), ((NONE, (), tuple(range(89))),))
        error = failure(drawn, spots)
        self.assertIs(error.__class__, errors.InvalidMap)
        self.assertIs(error.given, spots)
        self.assertEqual(failure(drawn, spots[:4] + (((NONE, (), tuple(range(90))),),)).given, 90)

    def test_sides_are_kept(self):
        plan = drawn(ARMS)
        ends = {label: point for label, point, turn in zip(plan[0][0], plan[1], plan[0][2]) if len(turn) == 1}
        middle = next(point for point, turn in zip(plan[1], plan[0][2]) if len(turn) == 3)
        self.assertEqual(set(ends), {A, B, C})
        self.assertEqual(code(least(plan[0])), code(ARMS))
        self.assertNotEqual(code(least(turned(plan[0]))), code(ARMS))
        self.assertEqual(len(set(ends.values()) | {middle}), 4)

    def test_drawn_once_more(self):
        for chart in (DISC, EYE, STICK, LOOP):
            self.assertEqual(code(least(drawn(least(drawn(chart)[0]))[0])), code(chart))

    def test_points_ascend(self):
        for chart in some_maps(69, 30, 20):
            _, points = drawn(chart)
            told = [tuple(Fraction(*part) for part in point) for point in points]
            self.assertEqual(told, sorted(set(told)))


if __name__ == "__main__":
    unittest.main()
