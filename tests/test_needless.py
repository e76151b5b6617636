import random
import unittest

import charts
from charts import A, AB, ALL, B, C, CUT, DISC, EMPTY, EYE, LOOP, NESTED, NONE, RINGS, STICK
from growing import Growing, any_numbers, renamed, some_maps
from helpers import at, failure
from test_scenes import some_scene
from bentalike import errors
from bentalike.codes import code, turned_code
from bentalike.maps import is_map, turned
from bentalike.needless import is_least, is_needless_arc, kind_of, least, least_map, steps, taken
from bentalike.scenes import is_scene


def alone(label, around=NONE):
    """A special without darts, in a face within a ring that is not needless."""
    return ((label,), (), ((),), ((C, 1, 0),), ((NONE, (), ()), (around, (), (0,))))


def star(label, rays, around=NONE):
    """Special 0 with rays of these labels, in a face within a ring that is not needless."""
    many = len(rays)
    bare = ((label,) + (C,) * many, tuple((0, ray + 1, told) for ray, told in enumerate(rays)),
            (tuple(range(0, 2 * many, 2)),) + tuple((2 * ray + 1,) for ray in range(many)))
    return bare + (((C, 1, 0),), ((NONE, (), ()), (around, tuple(charts.walks_of(bare)), ())))


def flower(label, petals, within):
    """Special 0 with arcs from it to itself, a face within each of them."""
    many = len(petals)
    bare = ((label,), tuple((0, 0, told) for told in petals), (tuple(range(2 * many)),))
    walks = charts.walks_of(bare)
    outer = [walk for walk in walks if 1 in walk]
    return bare + ((), ((NONE, tuple(outer), ()),) + tuple((told, ((2 * petal,),), ())
                                                           for petal, told in enumerate(within)))


class Kinds(unittest.TestCase):

    def test_without_darts_it_is_even_with_the_label_of_its_face_only(self):
        for label in (NONE, A, B, AB):
            for around in (NONE, A, B, AB):
                self.assertEqual(kind_of(alone(label, around), 0), "even" if label == around else "special")

    def test_with_needless_arcs_alone_it_is_even_with_the_label_of_the_faces_only(self):
        for around in (NONE, A, AB):
            for label in (NONE, A, AB):
                for many in (1, 2, 3):
                    told = kind_of(star(label, (around,) * many, around), 0)
                    self.assertEqual(told, "even" if label == around else "special")

    def test_with_one_dart_of_an_arc_that_is_not_needless(self):
        for rays in ((A,), (NONE, A), (NONE, A, NONE), (A, NONE, NONE)):
            self.assertEqual(kind_of(star(A, rays), 0), "special")
            self.assertEqual(kind_of(star(NONE, rays), 0), "special")

    def test_with_two_all_others_needless(self):
        for rays in ((A, A), (A, NONE, A), (NONE, A, A), (A, NONE, A, NONE), (A, A, NONE, NONE)):
            self.assertEqual(kind_of(star(A, rays), 0), "straight")
            self.assertEqual(kind_of(star(NONE, rays), 0), "special")
            self.assertEqual(kind_of(star(AB, rays), 0), "special")

    def test_with_two_one_of_another_label(self):
        for rays in ((A, B), (B, A), (A, NONE, B), (B, B)):
            self.assertEqual(kind_of(star(A, rays), 0), "special")

    def test_with_three_and_more(self):
        for rays in ((A, A, A), (A, NONE, A, A), (A, A, A, A)):
            self.assertEqual(kind_of(star(A, rays), 0), "special")

    def test_both_darts_of_one_arc(self):
        self.assertEqual(kind_of(flower(A, (A,), (B,)), 0), "straight")
        self.assertEqual(kind_of(flower(B, (A,), (B,)), 0), "special")
        self.assertEqual(kind_of(flower(A, (A,), (NONE,)), 0), "straight")
        self.assertEqual(kind_of(flower(NONE, (NONE,), (NONE,)), 0), "even")
        self.assertEqual(kind_of(flower(A, (NONE,), (NONE,)), 0), "special")
        self.assertEqual(kind_of(flower(A, (A, A), (B, B)), 0), "special")
        self.assertEqual(kind_of(flower(A, (NONE, A), (NONE, B)), 0), "straight")

    def test_an_arc_is_needless_with_the_label_of_both_its_faces_only(self):
        for label in (NONE, A, B):
            for within in (NONE, A, B):
                told = is_needless_arc(flower(A, (label,), (within,)), 0)
                self.assertIs(told, label == within == NONE)
        for around in (NONE, A):
            for label in (NONE, A):
                self.assertIs(is_needless_arc(star(B, (C, label), around), 1), label == around)

    def test_at_each_kind_of_map(self):
        self.assertEqual([kind_of(CUT, 0), kind_of(CUT, 1), kind_of(EYE, 1), kind_of(STICK, 0), kind_of(LOOP, 0)],
                         ["special"] * 5)
        self.assertEqual([kind_of(NESTED, special) for special in range(4)], ["straight"] * 2 + ["special"] * 2)

    def test_kinds_stay_when_steps_are_taken(self):
        for chart in some_maps(21, 60, 9):
            told = sorted(kind_of(chart, special) for special in range(len(chart[0])))
            for step in steps(chart):
                other = taken(chart, step)
                after = sorted(kind_of(other, special) for special in range(len(other[0])))
                gone = {"pass": 1, "spot": 1}.get(step[0], 0)
                self.assertEqual(len(told) - len(after), gone)
                self.assertEqual(told.count("special"), after.count("special"))
                self.assertGreaterEqual(told.count("even"), after.count("even"))

    def test_in_a_least_map_all_specials_are_special(self):
        for chart in some_maps(22, 80, 12):
            bare = least(chart)
            self.assertEqual({kind_of(bare, special) for special in range(len(bare[0]))} - {"special"}, set())
            many = sum(kind_of(chart, special) == "special" for special in range(len(chart[0])))
            self.assertEqual(len(bare[0]), many)


class Steps(unittest.TestCase):

    def test_of_nothing_at_all(self):
        self.assertEqual((steps(EMPTY), is_least(EMPTY), least(EMPTY)), ((), True, EMPTY))

    def test_of_maps_by_hand(self):
        self.assertEqual([steps(chart) for chart in (DISC, STICK, CUT, EYE, LOOP, RINGS)], [()] * 6)
        self.assertEqual(steps(NESTED), (("pass", 0), ("pass", 1)))

    def test_an_arc(self):
        self.assertEqual(steps(star(A, (NONE, A, NONE))), (("arc", 0), ("arc", 2)))
        self.assertEqual(steps(star(A, (A, B), A)), (("arc", 0),))

    def test_a_pass_of_two_arcs_and_of_one(self):
        self.assertEqual(steps(star(A, (A, A))), (("pass", 0),))
        for chart in (star(B, (A, A)), star(A, (A, B)), star(A, (B, B)), star(A, (A,)), star(A, (A, A, A))):
            self.assertEqual(steps(chart), ())
        self.assertEqual(steps(flower(A, (A,), (B,))), (("pass", 0),))
        self.assertEqual(steps(flower(A, (B,), (B,))), ())
        self.assertEqual(steps(flower(A, (A, A), (B, B))), ())

    def test_a_pass_may_be_of_needless_arcs(self):
        self.assertEqual(steps(star(A, (A, A), A)), (("arc", 0), ("arc", 1), ("pass", 0)))
        self.assertEqual(steps(flower(NONE, (NONE,), (NONE,))), (("arc", 0), ("pass", 0)))

    def test_a_special_of_two_needless_arcs_and_two_others_is_no_pass_yet(self):
        self.assertEqual(steps(star(A, (A, NONE, A, NONE))), (("arc", 1), ("arc", 3)))

    def test_a_ring(self):
        for label in (NONE, A):
            for within in (NONE, A):
                chart = ((), (), (), ((label, 1, 0),), ((NONE, (), ()), (within, (), ())))
                self.assertEqual(steps(chart), (("ring", 0),) if label == within == NONE else ())

    def test_a_spot(self):
        for label in (NONE, A):
            for around in (NONE, A):
                self.assertEqual(steps(alone(label, around)), (("spot", 0),) if label == around else ())

    def test_they_ascend_as_words_and_numbers(self):
        many = 12
        faces = ((NONE, (), tuple(range(many))),) + ((NONE, (), ()),) * many
        chart = ((NONE,) * many, (), ((),) * many, tuple((NONE, ring + 1, 0) for ring in range(many)), faces)
        told = tuple(("ring", ring) for ring in range(many)) + tuple(("spot", spot) for spot in range(many))
        self.assertEqual(steps(chart), told)
        for chart in some_maps(23, 60, 12):
            self.assertEqual(list(steps(chart)), sorted(steps(chart)))

    def test_a_map_is_least_without_steps_only(self):
        told = set()
        for chart in some_maps(24, 60, 6):
            self.assertIs(is_least(chart), steps(chart) == ())
            told.add(is_least(chart))
        self.assertEqual(told, {True, False})


class Taken(unittest.TestCase):

    def test_an_arc_with_one_face_on_both_sides_leaves_two_parts(self):
        chart = taken(star(A, (NONE,)), ("arc", 0))
        self.assertEqual(code(chart), "[-oC[-.A.C]]")
        chart = taken(star(A, (A, NONE, A)), ("arc", 1))
        self.assertEqual(code(chart), "[-oC[-(/A 2A 3A/C 0/C 1).C]]")
        row = taken(star(A, (A, NONE)), ("arc", 1))
        self.assertEqual(code(row), "[-oC[-(/A 1A/C 0).C]]")

    def test_an_arc_between_two_nets(self):
        # Two loops joined by an arc, of the face around both.
        bare = ((A, B), ((0, 0, A), (1, 1, B), (0, 1, NONE)), ((0, 1, 4), (2, 3, 5)))
        walks = charts.walks_of(bare)
        outer = [walk for walk in walks if 4 in walk]
        faces = ((NONE, tuple(outer), ()), (A, ((0,),), ()), (B, ((2,),), ()))
        chart = bare + ((), faces)
        self.assertIs(is_map(chart), True)
        self.assertEqual(code(taken(chart, ("arc", 2))), "[-(/A 1A 0[A])(/B 1B 0[B])]")

    def test_an_arc_between_a_net_and_one_within_it(self):
        # In the face within the loop, told as face 1, an arc leads to a loop that lies in it.
        bare = ((A, B), ((0, 0, A), (1, 1, B), (0, 1, C)), ((0, 4, 1), (2, 3, 5)))
        walks = charts.walks_of(bare)
        between = [walk for walk in walks if 4 in walk]
        faces = ((NONE, ((1,),), ()), (C, tuple(between), ()), (B, ((2,),), ()))
        chart = bare + ((), faces)
        self.assertIs(is_map(chart), True)
        self.assertEqual(steps(chart), (("arc", 2),))
        self.assertEqual(code(taken(chart, ("arc", 2))), "[-(/A 1A 0[C(/B 1B 0[B])])]")

    def test_an_arc_between_two_faces_makes_them_one(self):
        seam = ((A, A), ((0, 1, A), (0, 1, A), (0, 1, A)), CUT[2], (), CUT[4])
        self.assertEqual(code(taken(seam, ("arc", 1))), "[-(/A 2A 3A[A]/A 0 1)]")
        for order in ((0, 1, 2), (0, 2, 1)):
            faces = tuple(CUT[4][face] for face in order)
            self.assertEqual(code(taken(seam[:4] + (faces,), ("arc", 1))), "[-(/A 2A 3A[A]/A 0 1)]")

    def test_the_outer_face_stays_the_outer_one_on_either_side(self):
        for arc in (0, 2):
            labels = [B, B, B]
            labels[arc] = NONE
            within = [A, A]
            within[arc // 2] = NONE
            faces = (CUT[4][0],) + tuple((label, walks, ()) for label, (_, walks, _) in zip(within, CUT[4][1:]))
            chart = ((C, C), tuple((0, 1, label) for label in labels), CUT[2], (), faces)
            self.assertEqual(steps(chart), (("arc", arc),))
            other = taken(chart, ("arc", arc))
            self.assertEqual(other[4][0][0], NONE)
            self.assertEqual(code(other), "[-(/C 2B 3B[A]/C 0 1)]")

    def test_what_lies_in_both_faces_lies_in_the_one_then(self):
        chart = ((A, A, B, C), ((0, 1, A), (0, 1, A), (0, 1, A)), CUT[2] + ((), ()), ((B, 3, 1), (C, 4, 2)),
                 (CUT[4][0], (A, ((1, 2),), (2,)), (A, ((3, 4),), (3,)), (NONE, (), ()), (NONE, (), ())))
        self.assertIs(is_map(chart), True)
        self.assertEqual(steps(chart), (("arc", 1),))
        self.assertEqual(code(taken(chart, ("arc", 1))), "[-(/A 2A 3A[A.B.CoB[-]oC[-]]/A 0 1)]")

    def test_an_arc_from_a_special_to_itself_leaves_a_spot(self):
        chart = taken(flower(A, (NONE,), (NONE,)), ("arc", 0))
        self.assertEqual(code(chart), "[-.A]")
        chart = taken(flower(A, (NONE, B), (NONE, C)), ("arc", 0))
        self.assertEqual(code(chart), "[-(/A 1B 0[C])]")

    def test_a_ring_that_comes_into_the_outer_face_stays_in_order(self):
        loop = ((A,), ((0, 0, NONE),), ((0, 1),), ((B, 2, 1), (C, 3, 2)),
                ((NONE, ((1,),), ()), (NONE, ((0,),), ()), (A, (), ()), (B, (), ())))
        other = taken(loop, ("arc", 0))
        self.assertIs(is_map(other), True)
        self.assertEqual(code(other), "[-.AoB[AoC[B]]]")

    def test_a_pass_of_two_arcs(self):
        chart = taken(star(A, (A, A)), ("pass", 0))
        self.assertEqual(code(chart), "[-oC[-(/C 1A/C 0)]]")
        self.assertEqual([arc[2] for arc in chart[1]], [A])

    def test_a_pass_between_one_special_and_itself(self):
        chart = taken(NESTED, ("pass", 0))
        self.assertEqual(sorted(len(row) for row in chart[2]), [1, 1, 2])
        self.assertIn(steps(chart), ((("pass", 0),), (("pass", 1),), (("pass", 2),)))

    def test_a_pass_of_one_arc_becomes_a_ring(self):
        chart = taken(flower(A, (A,), (B,)), ("pass", 0))
        self.assertEqual(chart, ((), (), (), ((A, 1, 0),), ((NONE, (), ()), (B, (), ()))))

    def test_the_ring_has_its_faces_in_order_whichever_dart_is_first(self):
        for faces in (((NONE, ((1,),), ()), (B, ((0,),), ())), ((NONE, ((0,),), ()), (B, ((1,),), ()))):
            chart = ((A,), ((0, 0, A),), ((0, 1),), (), faces)
            self.assertEqual(taken(chart, ("pass", 0))[3], ((A, 1, 0),))
        within = ((A, A), ((0, 0, A), (1, 1, A)), ((0, 1), (2, 3)), (),
                  ((NONE, ((1,),), ()), (C, ((2,),), ()), (B, ((0,), (3,)), ())))
        self.assertIs(is_map(within), True)
        for first in (0, 1):
            other = taken(within, ("pass", first))
            self.assertIs(is_map(other), True)
            self.assertEqual(code(taken(other, ("pass", 0))), "[-oA[BoA[C]]]")

    def test_a_ring_goes(self):
        rings = ((), (), (), ((NONE, 1, 0), (A, 2, 1), (NONE, 3, 0)),
                 ((NONE, (), ()), (NONE, (), ()), (B, (), ()), (NONE, (), ())))
        self.assertEqual(code(taken(rings, ("ring", 0))), "[-o-[-]oA[B]]")
        self.assertEqual(code(taken(rings, ("ring", 2))), "[-o-[-oA[B]]]")

    def test_a_spot_goes(self):
        chart = ((A, NONE, B), (), ((), (), ()), (), ((NONE, (), (0, 1, 2)),))
        self.assertEqual(taken(chart, ("spot", 1)), ((A, B), (), ((), ()), (), ((NONE, (), (0, 1)),)))

    def test_what_comes_is_a_map_with_all_else(self):
        for chart in some_maps(26, 120, 12):
            for step in steps(chart):
                other = taken(chart, step)
                self.assertIs(is_map(other), True)
                self.assertEqual(other[4][0][0], NONE)
                self.assertEqual(sorted(self.lost(chart, other, step)), [])
                self.assertLess(sum(map(len, other[:2] + other[3:4])), sum(map(len, chart[:2] + chart[3:4])))

    def lost(self, chart, other, step):
        """What is told of labels, in the map and in what comes, and is unlike but for what the step takes."""
        word, index = step
        one_arc = word == "pass" and len({dart // 2 for dart in chart[2][index]}) == 1
        fewer = {"arc": (0, 1, 0), "pass": (1, 1, -1 if one_arc else 0), "ring": (0, 0, 1), "spot": (1, 0, 0)}[word]
        counts = [len(chart[row]) - len(other[row]) for row in (0, 1, 3)]
        unlike = [] if counts == list(fewer) else ["counts"]
        label = chart[{"arc": 1, "pass": 0, "ring": 3, "spot": 0}[word]][index]
        label = label[2] if word == "arc" else label[0] if word == "ring" else label
        faces = sorted(told[0] for told in chart[4])
        after = sorted(told[0] for told in other[4])
        if len(faces) != len(after):
            faces.remove(label)
        return unlike + ([] if faces == after else ["faces"])

    def test_steps_that_are_none_of_the_map(self):
        seam = ((A, A), ((0, 1, A), (0, 1, A), (0, 1, A)), CUT[2], (), CUT[4])
        wrong = (("arc", 0), ("arc", 2), ("arc", 3), ("arc", -2), ("arc", True), ("arc", "1"), ("arc", None),
                 ("arc", (1,)), ("pass", 0), ("pass", 1), ("spot", 1), ("ring", 0), ("Arc", 1), (b"arc", 1), ("arc",),
                 ("arc", 1, 1), ["arc", 1], "arc", None, True, 1, (), (1, "arc"), (["arc"], 1), ("arc", [1]),
                 ("arc", 10 ** 500), (("arc", 1),))
        for step in wrong:
            error = failure(taken, seam, step)
            self.assertIs(error.__class__, errors.InvalidStep)
            self.assertIs(error.given, step)
        self.assertIs(is_map(taken(seam, ("arc", 1))), True)
        error = failure(taken, ((), (), (), ((NONE, 1, 0),), ((NONE, (), ()),) * 2), ("ring", False))
        self.assertIs(error.__class__, errors.InvalidStep)


def with_pass_on(chart, arc):
    """The map with a special of the arc's label put on the arc."""
    specials, arcs, turns, rings, faces = chart
    tail, head, label = arcs[arc]
    special, new = len(specials), len(arcs)
    turns = [[2 * new + 1 if dart == 2 * arc + 1 else dart for dart in turn]
             for turn in turns] + [[2 * arc + 1, 2 * new]]
    other = arcs[:arc] + ((tail, special, label),) + arcs[arc + 1:] + ((special, head, label),)
    bare = (specials + (label,), other, tuple(charts.from_least(turn) for turn in turns))
    left = {dart: face for face, (_, walks, _) in enumerate(faces) for walk in walks for dart in walk}
    left[2 * new], left[2 * new + 1] = left[2 * arc], left[2 * arc + 1]
    return bare + (rings, with_walks(bare, faces, left))


def with_walks(bare, faces, left):
    walks = charts.walks_of(bare)
    return tuple((label, tuple(walk for walk in walks if left[walk[0]] == face), spots)
                 for face, (label, _, spots) in enumerate(faces))


def with_pass_for(chance, chart, ring):
    """The map with a special of the ring's label put on the ring, and an arc in its place."""
    specials, arcs, turns, rings, faces = chart
    label, within, around = rings[ring]
    special, first = len(specials), 2 * len(arcs)
    bare = (specials + (label,), arcs + ((special, special, label),), turns + ((first, first + 1),))
    left = {dart: face for face, (_, walks, _) in enumerate(faces) for walk in walks for dart in walk}
    left[first], left[first + 1] = chance.sample((within, around), 2)
    return bare + (rings[:ring] + rings[ring + 1:], with_walks(bare, faces, left))


class PutInAndTaken(unittest.TestCase):
    """What is put into a map by another way and taken away by steps leaves the map as it was."""

    def check_taken(self, chart, more, *row):
        self.assertIs(is_map(more), True)
        for step in row:
            self.assertIn(step, steps(more))
            more = taken(more, step)
            self.assertIs(is_map(more), True)
        self.assertEqual(code(more), code(chart))

    def grown_on(self, seed, kind):
        """Pairs of a map and the map with something more, all of one label with the face in which it is put."""
        for number in range(60):
            chance = random.Random(f"{seed} {number}")
            maker = Growing(chance)
            for _ in range(chance.randrange(12)):
                maker.grow()
            chart = maker.told()
            face = chance.choice(range(len(maker.faces)))
            maker.labels, maker.face = (maker.faces[face],), lambda: face
            if kind == "spot":
                maker.add_spot()
            elif kind == "ring":
                maker.add_ring()
            else:
                maker.add_arc(kind == "whisker")
            yield chart, maker.told()

    def test_spots(self):
        for chart, more in self.grown_on(1, "spot"):
            self.check_taken(chart, more, ("spot", len(chart[0])))

    def test_rings(self):
        for chart, more in self.grown_on(2, "ring"):
            self.check_taken(chart, more, ("ring", len(chart[3])))

    def test_arcs(self):
        done = 0
        for chart, more in self.grown_on(3, "arc"):
            if more != chart:
                self.check_taken(chart, more, ("arc", len(chart[1])))
                done += 1
        self.assertGreater(done, 20)

    def test_whiskers(self):
        for chart, more in self.grown_on(4, "whisker"):
            if len(more[0]) > len(chart[0]) and len(more[1]) > len(chart[1]):
                self.check_spots(chart, more)

    def check_spots(self, chart, more):
        """An arc to a special of its own label: of both, then of the spot that it leaves, nothing stays."""
        bare = taken(more, ("arc", len(chart[1])))
        spots = [step for step in steps(bare) if step[0] == "spot"]
        self.assertIn(code(chart), [code(taken(bare, step)) for step in spots])

    def test_passes_on_arcs(self):
        chance = random.Random(5)
        for chart in some_maps(27, 60, 10):
            if chart[1]:
                more = with_pass_on(chart, chance.randrange(len(chart[1])))
                self.check_taken(chart, more, ("pass", len(chart[0])))

    def test_passes_for_rings(self):
        chance = random.Random(6)
        for chart in some_maps(28, 80, 10):
            if chart[3]:
                more = with_pass_for(chance, chart, chance.randrange(len(chart[3])))
                self.check_taken(chart, more, ("pass", len(chart[0])))


class OneLeastMap(unittest.TestCase):

    def test_in_whatever_order_steps_are_taken(self):
        chance = random.Random(29)
        for chart in some_maps(30, 80, 14):
            told = code(least(chart))
            for _ in range(3):
                other = chart
                while steps(other):
                    other = taken(other, chance.choice(steps(other)))
                self.assertEqual(code(other), told)

    def test_of_few_labels_so_that_much_is_needless(self):
        chance = random.Random(31)
        for labels in ((NONE,), (NONE, NONE, A)):
            for chart in some_maps(32, 60, 20, labels):
                told = code(least(chart))
                for pick in (min, max, chance.choice):
                    other = chart
                    while steps(other):
                        other = taken(other, pick(steps(other)))
                    self.assertEqual(code(other), told)

    def test_all_of_one_label_leaves_nothing(self):
        for chart in some_maps(33, 40, 20, (NONE,)):
            self.assertEqual(least(chart), EMPTY)

    def test_each_order_of_all(self):
        seam = ((A, A), ((0, 1, A), (0, 1, A), (0, 1, A)), CUT[2], (), CUT[4])
        done = self.all_ends(seam) | self.all_ends(NESTED)
        self.assertEqual(done, {"[-oA[A]]", "[-oA[A(/B 1B/B 0)oC[C]]]"})

    def all_ends(self, chart):
        if not steps(chart):
            return {code(chart)}
        return set().union(*[self.all_ends(taken(chart, step)) for step in steps(chart)])

    def test_a_least_map_is_left_as_it_is(self):
        for chart in ALL:
            if is_least(chart):
                self.assertEqual(code(least(chart)), code(chart))
        for chart in some_maps(34, 40, 10):
            self.assertIs(is_map(least(chart)), True)
            self.assertIs(is_least(least(chart)), True)

    def test_numbered_anew_and_turned(self):
        chance = random.Random(35)
        for chart in some_maps(36, 60, 12):
            other = renamed(chart, any_numbers(chance, chart))
            self.assertEqual(code(least(other)), code(least(chart)))
            self.assertEqual(code(least(turned(chart))), turned_code(least(chart)))
            self.assertEqual([word for word, _ in steps(other)], [word for word, _ in steps(chart)])

    def test_large_ones(self):
        many = 700
        arcs = tuple((special, (special + 1) % many, A) for special in range(many))
        bare = ((A,) * many, arcs, tuple(charts.from_least([2 * special, (2 * special - 1) % (2 * many)])
                                         for special in range(many)))
        walks = charts.walks_of(bare)
        chart = bare + ((), tuple((label, (walk,), ()) for label, walk in zip((NONE, B), walks)))
        self.assertEqual(least(chart), ((), (), (), ((A, 1, 0),), ((NONE, (), ()), (B, (), ()))))


SQUARE = (at(0, 0), at(4, 0), at(4, 4), at(0, 4))
HALVES = ("either", ("area", (at(0, 0), at(2, 0), at(2, 4), at(0, 4))),
          ("area", (at(2, 0), at(4, 0), at(4, 4), at(2, 4))))


class OfScenes(unittest.TestCase):

    def test_of_no_sets(self):
        self.assertEqual(least_map(()), EMPTY)
        self.assertEqual(least_map((("B", ("less", ("spot", at(1, 1)), ("spot", at(1, 1)))),)), EMPTY)

    def test_the_same_places_told_by_other_figures(self):
        square = ("area", SQUARE)
        seam = ("path", (at(2, 0), at(2, 4)))
        told = code(least_map((("A", square),)))
        for figure in (HALVES, ("either", square, seam), ("closure", ("less", square, seam)), ("closure", square),
                       ("either", ("inner", square), ("rim", square)), ("both", square, square),
                       ("area", (at(0, 0), at(2, 0), at(4, 0), at(4, 4), at(0, 4), at(0, 1))),
                       ("either", square, ("spot", at(3, 3)))):
            self.assertEqual(code(least_map((("A", figure),))), told)
        self.assertEqual(told, "[-oA[A]]")

    def test_other_places(self):
        square = ("area", SQUARE)
        told = [("inner", square), ("rim", square), ("less", square, ("spot", at(1, 1))),
                ("less", square, ("spot", at(0, 0))), ("less", square, ("path", (at(1, 1), at(2, 1)))),
                ("less", square, ("path", SQUARE[:2])), ("less", square, ("path", (at(0, 2), at(4, 2)))),
                ("either", square, ("path", (at(0, 0), at(-1, -1)))), ("path", SQUARE), ("spot", at(0, 0))]
        codes = [code(least_map((("A", figure),))) for figure in told]
        self.assertEqual(codes, [
            "[-o-[A]]", "[-oA[-]]", "[-oA[A.-]]", "[-(/- 1A 0[A])]", "[-oA[A(/- 1-/- 0)]]", "[-(/- 2- 3A[A]/- 0 1)]",
            "[-(/- 3A 5A[A] 4-[A]/- 0 2 1)]", "[-(/A 1A/A 0 3A[A] 2)]", "[-(/A 1A/A 0)]", "[-.A]"])

    def test_it_is_a_least_map_of_random_scenes(self):
        chance = random.Random(37)
        for _ in range(60):
            scene = some_scene(chance, 3, 4)
            if is_scene(scene):
                chart = least_map(scene)
                self.assertIs(is_map(chart), True)
                self.assertIs(is_least(chart), True)
                self.assertEqual(code(chart), code(least(charts.map_of_scene(scene))))

    def test_seams_through_random_scenes_change_nothing(self):
        chance = random.Random(38)
        done = 0
        for _ in range(60):
            scene = some_scene(chance, 3, 4)
            seam = ("path", (at(-1, chance.randrange(5)), at(5, chance.randrange(5)), at(2, -3)))
            nothing = ("less", seam, seam)
            other = tuple((name, ("less", figure, nothing)) for name, figure in scene)
            if is_scene(other):
                self.assertEqual(code(least_map(other)), code(least_map(scene)))
                done += 1
        self.assertGreater(done, 30)


if __name__ == "__main__":
    unittest.main()
