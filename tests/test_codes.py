import random
import unittest
from itertools import permutations, product

import charts
import recode
from charts import A, AB, ALL, B, C, CUT, DISC, EMPTY, EYE, LOOP, NESTED, NONE, RINGS, STICK
from growing import any_numbers, mirrored, renamed, some_maps
from helpers import failure
from test_maps import but, part_at, places_in
from test_needless import flower, star
from bentalike import errors
from bentalike.codes import code, is_code, map_of, turned_code
from bentalike.maps import is_map, parts_in, turned

FACES = (NONE, (), ())
# Arms A, B, C counterclockwise round special 0.
ARMS = ((A, A, B, C), ((0, 1, A), (0, 2, B), (0, 3, C)), ((0, 2, 4), (1,), (3,), (5,)), (),
        ((NONE, ((0, 1, 4, 5, 2, 3),), ()),))


def wheel(labels):
    """Special 0 with arcs of these labels to one special, one behind the other counterclockwise."""
    many = len(labels)
    bare = ((A, A), tuple((0, 1, label) for label in labels),
            (tuple(range(0, 2 * many, 2)), charts.from_least(list(range(2 * many - 1, 0, -2)))))
    walks = charts.walks_of(bare)
    return bare + ((), tuple((NONE if index == 0 else B, (walk,), ()) for index, walk in enumerate(walks)))


def all_numbers(chart):
    """All rows of numbers in which the map may be told."""
    faces = [(0,) + row for row in permutations(range(1, len(chart[4])))]
    many = len(chart[1])
    darts = [tuple(2 * arc + (flip ^ end) for arc, flip in zip(arcs, flips) for end in (0, 1))
             for arcs in permutations(range(many)) for flips in product((0, 1), repeat=many)]
    return product(permutations(range(len(chart[0]))), darts, permutations(range(len(chart[3]))), faces)


class ByHand(unittest.TestCase):

    def test_nothing_at_all(self):
        self.assertEqual((code(EMPTY), turned_code(EMPTY)), ("[-]", "[-]"))

    def test_faces_and_labels(self):
        told = {
            "[-oA[A]]": DISC, "[-(/A 1A/A 0)]": STICK, "[-.AoA[-.B]]": EYE, "[-(/A 1C 0[A.B])]": LOOP,
            "[-oA[AoB[BoA[A]]]oC[C]]": RINGS, "[-(/A 2A 3A[A(/B 1B/B 0)oC[C]]/A 0 1)]": NESTED,
            "[-(/AB 3A 5A[A] 4AB[A]/AB 0 2 1)]": CUT, "[-oC[-(/A 1A/C 0)]]": star(A, (A,)),
            "[-(/A 3B 2C[B] 1 0[C])]": flower(A, (B, C), (C, B)),
        }
        for text, chart in told.items():
            self.assertEqual(code(chart), text)

    def test_names_one_behind_the_other(self):
        every = ("A", "B", "C", "D")
        chart = ((every, ("B", "D")), (), ((), ()), ((every, 1, 0),), ((NONE, (), (1,)), (("A", "D"), (), (0,))))
        self.assertEqual(code(chart), "[-.BDoABCD[AD.ABCD]]")

    def test_parts_in_the_order_of_texts(self):
        labels = (("B",), NONE, AB, A, ("A", "C"), A)
        chart = (labels, (), ((),) * 6, (), ((NONE, (), tuple(range(6))),))
        self.assertEqual(code(chart), "[-.-.A.A.AB.AC.B]")
        rings = ((), (), (), tuple((label, at + 1, 0) for at, label in enumerate(labels)),
                 (FACES,) + tuple((NONE, (), ()) for _ in labels))
        self.assertEqual(code(rings), "[-o-[-]oAB[-]oAC[-]oA[-]oA[-]oB[-]]")

    def test_a_net_a_spot_and_a_ring_side_by_side(self):
        chart = ((A, A, B), ((0, 1, A),), ((0,), (1,), ()), ((C, 1, 0),), ((NONE, ((0, 1),), (2,)), (B, (), ())))
        self.assertEqual(code(chart), "[-(/A 1A/A 0).BoC[B]]")

    def test_numbers_are_compared_as_texts(self):
        # A row of 6 arcs with all labels alike: 10 stands ahead of 2.
        chart = star(A, (A,) * 6)
        self.assertEqual(code(chart), "[-oC[-" + min(recode.net_texts(chart, 1, 0)) + "]]")
        wide = star(A, (A,) * 12)
        texts = recode.net_texts(wide, 1, 0)
        self.assertIn(min(texts), code(wide))

    def test_the_least_of_the_texts_of_the_outer_walk(self):
        chart = ((A, B), ((0, 1, A),), ((0,), (1,)), (), ((NONE, ((0, 1),), ()),))
        self.assertEqual(code(chart), "[-(/A 1A/B 0)]")
        chart = ((AB, A), ((0, 1, A),), ((0,), (1,)), (), ((NONE, ((0, 1),), ()),))
        self.assertEqual(code(chart), "[-(/A 1A/AB 0)]")
        chart = ((A, NONE), ((0, 1, A),), ((0,), (1,)), (), ((NONE, ((0, 1),), ()),))
        self.assertEqual(code(chart), "[-(/- 1A/A 0)]")

    def test_darts_that_lie_within_begin_no_text(self):
        # The special within comes first by its label, but no dart of the outer walk leaves it.
        chart = ((B, NONE), ((0, 0, B), (0, 1, B)), ((0, 2, 1), (3,)), (),
                 ((NONE, ((1,),), ()), (A, ((0, 2, 3),), ())))
        self.assertIs(is_map(chart), True)
        self.assertEqual(code(chart), "[-(/B 1B 0[A] 3B/- 2)]")

    def test_the_code_of_a_face_stands_at_the_least_dart_of_its_walk(self):
        texts = recode.net_texts(wheel((A, A, A)), 0, 0)
        self.assertEqual(code(wheel((A, A, A))), "[-" + min(texts) + "]")
        self.assertEqual(code(wheel((A, A, A))), "[-(/A 3A 5A[B] 4A[B]/A 0 2 1)]")

    def test_arms(self):
        self.assertEqual(code(ARMS), "[-(/A 1A/A 0 4B 5C/B 2/C 3)]")
        self.assertEqual(turned_code(ARMS), "[-(/A 1A/A 0 4C 5B/C 2/B 3)]")


class AsTheDocumentWordsIt(unittest.TestCase):

    def test_maps_by_hand_and_of_scenes(self):
        for chart in ALL + (ARMS, wheel((A, B, A, B)), star(A, (B, A, B)), flower(A, (A, B), (C, C))):
            self.assertEqual(code(chart), recode.face_text(chart))
            self.assertEqual(turned_code(chart), recode.face_text(mirrored(chart)))

    def test_grown_maps(self):
        for labels in ((NONE,), (NONE, A), (NONE, A, B, AB)):
            for chart in some_maps(41, 70, 10, labels):
                self.assertEqual(code(chart), recode.face_text(chart))
                self.assertEqual(turned_code(chart), recode.face_text(mirrored(chart)))

    def test_turned_code_is_the_code_of_the_map_turned(self):
        for chart in ALL + tuple(some_maps(42, 60, 12)):
            self.assertEqual(turned_code(chart), code(turned(chart)))
            self.assertEqual(turned_code(turned(chart)), code(chart))


class NumberedAnew(unittest.TestCase):

    def test_in_every_way(self):
        small = [chart for chart in some_maps(43, 120, 5) if sum(map(len, chart)) < 13]
        self.assertGreater(len(small), 20)
        for chart in [CUT, EYE, LOOP, RINGS] + small[:25]:
            told = {code(renamed(chart, numbers)) for numbers in all_numbers(chart)}
            self.assertEqual(told, {code(chart)})

    def test_large_ones_in_some_ways(self):
        chance = random.Random(44)
        for chart in some_maps(45, 40, 30):
            for _ in range(3):
                other = renamed(chart, any_numbers(chance, chart))
                self.assertIs(is_map(other), True)
                self.assertEqual(code(other), code(chart))
                self.assertEqual(turned_code(other), turned_code(chart))

    def test_a_net_whose_turn_is_told_from_any_dart(self):
        rays = (A, B, A, A, B, AB)
        told = {code(star(A, rays[at:] + rays[:at])) for at in range(len(rays))}
        self.assertEqual(len(told), 1)
        self.assertEqual({turned_code(star(A, rays[at:] + rays[:at])) for at in range(len(rays))},
                         {code(star(A, rays[::-1]))})


class Unlike(unittest.TestCase):

    def test_in_one_label(self):
        for chart in ALL + tuple(some_maps(46, 25, 8)):
            for place in places_in(chart):
                if self.is_label_of(chart, place):
                    label = part_at(chart, place)
                    other = but(chart, place, ("D",) if label != ("D",) else NONE)
                    self.assertIs(is_map(other), True)
                    self.assertNotEqual(code(other), code(chart))

    def is_label_of(self, chart, place):
        return ((len(place) == 2 and place[0] == 0) or (len(place) == 3 and place[0] == 1 and place[2] == 2)
                or (len(place) == 3 and place[0] == 3 and place[2] == 0)
                or (len(place) == 3 and place[0] == 4 and place[2] == 0 and place[1] > 0))

    def test_in_one_turn(self):
        other = ARMS[:2] + (((0, 4, 2), (1,), (3,), (5,)), (), ((NONE, ((0, 1, 2, 3, 4, 5),), ()),))
        self.assertIs(is_map(other), True)
        self.assertNotEqual(code(other), code(ARMS))
        four = star(A, (A, B, A, B))
        changed = star(A, (A, A, B, B))
        self.assertNotEqual(code(four), code(changed))

    def test_in_the_face_in_which_a_part_lies(self):
        spots = [but(but(CUT[:4] + (tuple((label, walks, (2,) if face == at else ())
                                          for face, (label, walks, _) in enumerate(CUT[4])),),
                         (0,), CUT[0] + (C,)), (2,), CUT[2] + ((),)) for at in range(3)]
        for chart in spots:
            self.assertIs(is_map(chart), True)
        self.assertEqual(len({code(chart) for chart in spots}), 2)
        self.assertEqual(code(spots[1]), code(spots[2]))
        within = but(EYE, (4,), ((NONE, (), ()), (NONE, (), (0, 1))))
        other = but(EYE, (4,), ((NONE, (), (0, 1)), (NONE, (), ())))
        self.assertEqual(len({code(chart) for chart in (EYE, within, other)}), 3)

    def test_in_the_face_that_is_the_outer_one(self):
        inside = wheel((A, B, C))
        told = set()
        for first in range(3):
            walks = [walks for _, walks, _ in inside[4]]
            walks = walks[first:] + walks[:first]
            chart = inside[:4] + (tuple((NONE if at == 0 else B, row, ()) for at, row in enumerate(walks)),)
            self.assertIs(is_map(chart), True)
            told.add(code(chart))
        self.assertEqual(len(told), 3)

    def test_mirror_images(self):
        for chart in (EMPTY, DISC, STICK, CUT, EYE, LOOP, RINGS, NESTED, star(A, (A, B)), wheel((A, B, A))):
            self.assertEqual(turned_code(chart), code(chart))
        unlike = ((A, B),) + wheel((A, B, B))[1:]
        for chart in (ARMS, star(A, (A, B, C)), unlike, flower(A, (A, B, C), (B, B, B))):
            self.assertNotEqual(turned_code(chart), code(chart))
        self.assertNotEqual(turned_code(star(A, (A, A, B, AB, C))), code(star(A, (A, A, B, AB, C))))

    def test_parts_with_one_code_twice_and_more_often(self):
        told = set()
        for spots in range(4):
            for rings in range(4):
                chart = ((A,) * spots, (), ((),) * spots, tuple((A, ring + 1, 0) for ring in range(rings)),
                         ((NONE, (), tuple(range(spots))),) + ((B, (), ()),) * rings)
                self.assertEqual(code(chart), "[-" + ".A" * spots + "oA[B]" * rings + "]")
                told.add(code(chart))
        self.assertEqual(len(told), 16)


class ReadBack(unittest.TestCase):

    def test_each_code_is_that_of_a_map_read_from_it(self):
        for chart in ALL + (ARMS,) + tuple(some_maps(47, 120, 20)):
            text = code(chart)
            self.assertIs(is_code(text), True)
            other = map_of(text)
            self.assertIs(is_map(other), True)
            self.assertEqual(code(other), text)
            self.assertEqual([len(row) for row in other], [len(row) for row in chart])

    def test_of_one_label_so_that_much_is_alike(self):
        for chart in some_maps(48, 80, 14, (NONE,)):
            self.assertEqual(code(map_of(code(chart))), code(chart))

    def test_other_values(self):
        for value in (None, True, False, 0, 1, b"[-]", ["[-]"], ("[-]",), {}, (), EMPTY, object(), "", " ", "-", "[",
                      "]",
                      "[]", "[-", "-]", "[--]", "[-]]", "[[-]]", "[-] ", " [-]", "[-]\n", "[ -]", "[A]", "[AB]", "[()]",
                      "[-][-]", "[-[-]]", "[-[A]]", "(-)", "[-/A]", "[- 0]", "[-A]"):
            self.assertIs(is_code(value), False, value)
            error = failure(map_of, value)
            self.assertIs(error.__class__, errors.InvalidCode)
            self.assertIs(error.given, value)

    def test_parts_out_of_order(self):
        for text in ("[-.B.A]", "[-.AB.A]", "[-oA[A].A]", "[-.A(/A 1A/A 0)]", "[-oB[-]oA[-]]", "[-oA[A.B.A]]",
                     "[-oA[B]oA[A]]",
                     "[-.B.-]", "[-(/B 1A/B 0)(/A 1A/A 0)]", "[-oA[-]oAB[-]]"):
            self.assertIs(is_code(text), False, text)
        for text in ("[-.A.B]", "[-.A.AB]", "[-.AoA[A]]", "[-(/A 1A/A 0).A]", "[-oA[-]oB[-]]", "[-oA[A.A.B]]",
                     "[-oA[A]oA[B]]",
                     "[-.-.B]", "[-(/A 1A/A 0)(/B 1A/B 0)]", "[-oAB[-]oA[-]]"):
            self.assertIs(is_code(text), True, text)

    def test_a_net_from_another_dart(self):
        done = 0
        for chart in some_maps(49, 250, 16):
            for kind, index in parts_in(chart, 0):
                if kind == "special" and chart[2][index]:
                    done += self.check_net(chart, index)
        self.assertGreater(done, 50)

    def check_net(self, chart, special):
        """How many texts of a net in the outer face, but for its code, there are; none is part of a code."""
        texts = recode.net_texts(chart, 0, special)
        others = [text for text in texts if text != min(texts)]
        self.assertIs(is_code("[-" + min(texts) + "]"), True)
        for text in others:
            self.assertIs(is_code("[-" + text + "]"), False, text)
        return len(others)

    def test_a_net_that_begins_with_a_dart_within(self):
        # Special 1 comes first by its label, but lies within.
        chart = ((B, A), ((0, 0, B), (0, 1, B)), ((0, 2, 1), (3,)), (),
                 ((NONE, ((1,),), ()), (A, ((0, 2, 3),), ())))
        self.assertIs(is_code(code(chart)), True)
        within = recode.net_text(chart, 3, [1])
        self.assertIs(is_code("[-" + within + "]"), False)

    def test_numbers(self):
        self.assertIs(is_code("[-(/A 1A/A 0)]"), True)
        for text in ("[-(/A 2A/A 0)]", "[-(/A 1A/A 1)]", "[-(/A 0A/A 1)]", "[-(/A 1/A 0)]", "[-(/A 1A/A 0A)]",
                     "[-(/A 01A/A 0)]",
                     "[-(/A 1A/A 00)]", "[-(/A 1A/A -0)]", "[-(/A +1A/A 0)]", "[-(/A  1A/A 0)]", "[-(/A 1A /A 0)]",
                     "[-(/A 9999A/A 0)]", "[-(/A 99999999A/A 0)]", "[-(/A A/A 0)]", "[-(/A 1A/A)]", "[-(/A 1A/A )]",
                     "[-(/A 1A)]", "[-(/A 0A)]", "[-(/A)]", "[-()]", "[-(/A/A)]", "[-( 1A/A 0)]", "[-(/A 1A/A 0",
                     "[-(/A 1A/A 0)", "[-(/A 1A/A 0]", "[-(/A 1A/A 0)])", "[-(/A 1A/A 0 0)]", "[-(/A 1A/A 0/A)]",
                     "[-(A 1A/A 0)]", "[-(/A 1A//A 0)]", "[-(/ 1A/A 0)]", "[-/A 1A/A 0]", "[-(/A 1AA/A 0)]",
                     "[-(/A 1A/A 0)()]", "[-(/A " + "1" * 3000 + "A/A 0)]"):
            self.assertIs(is_code(text), False, text)

    def test_two_nets_told_as_one(self):
        self.assertIs(is_code("[-(/A 1A/A 0/B 3B/B 2)]"), False)

    def test_faces_within_nets(self):
        self.assertIs(is_code("[-(/A 1C 0[A.B])]"), True)
        for text in ("[-(/A 1C 0)]", "[-(/A 1C[A.B] 0)]", "[-(/A 1C[-] 0[A.B])]", "[-(/A 1C 0[A.B][A])]",
                     "[-(/A[A] 1C 0)]",
                     "[-(/A 1C 0[])]", "[-([A.B]/A 1C 0)]", "[-(/A 1C 0[A.B)]", "[-(/A 1C 0A.B])]"):
            self.assertIs(is_code(text), False, text)

    def test_a_turn_that_is_not_plane(self):
        self.assertIs(is_code("[-(/A 2A 3A 0 1)]"), False)
        self.assertIs(is_code("[-(/AB 3A 5A[A] 4AB[A]/AB 0 2 1)]"), True)
        self.assertIs(is_code("[-(/AB 3A 4A[A] 5AB[A]/AB 0 1 2)]"), False)

    def test_labels(self):
        for text in ("[-.AA]", "[-.BA]", "[-.E]", "[-.a]", "[-.]", "[-.A-]", "[-.-A]", "[-o[A]]", "[-oA]", "[-oA-]",
                     "[-oA[]]",
                     "[-oAA[-]]", "[-oA[CB]]", "[-.ABCDD]", "[-.ABDC]"):
            self.assertIs(is_code(text), False, text)
        for text in ("[-.ABCD]", "[-oABCD[ABCD.BD]]", "[-.-]", "[-o-[-]]"):
            self.assertIs(is_code(text), True, text)

    def test_one_sign_left_out_or_put_in_or_changed(self):
        signs = "[]()/.o-ABCD 0123459x"
        for chart in (CUT, NESTED, EYE, LOOP, RINGS, ARMS):
            text = code(chart)
            for at in range(len(text) + 1):
                self.check_text(text[:at] + text[at + 1:], text)
                for sign in signs:
                    self.check_text(text[:at] + sign + text[at:], text)
                    self.check_text(text[:at] + sign + text[at + 1:], text)

    def check_text(self, text, told):
        """A text is a code exactly if the map that is read from it has this code by the document's words."""
        if is_code(text):
            chart = map_of(text)
            self.assertIs(is_map(chart), True)
            self.assertEqual(recode.face_text(chart), text)
        elif text == told:
            self.fail(text)

    def test_of_all_short_texts_these_alone_are_codes(self):
        found = set()
        for many in range(7):
            for signs in product("[].o-A", repeat=many):
                text = "[-" + "".join(signs)
                if is_code(text):
                    found.add(text)
        self.assertEqual(found, {"[-]", "[-.-]", "[-.A]", "[-.-.-]", "[-.-.A]", "[-.A.A]", "[-o-[-]]", "[-o-[A]]",
                                 "[-oA[-]]", "[-oA[A]]"})

    def test_up_to_3000_in_a_map(self):
        self.assertIs(is_code("[-" + ".A" * 1900 + "]"), True)
        many = "[-" + ".A" * 2999 + "]"
        self.assertEqual(code(map_of(many)), many)
        self.assertIs(is_code("[-" + ".A" * 3000 + "]"), False)

    def test_numbers_of_four_signs(self):
        many = 520
        arcs = tuple((at, at + 1, A) for at in range(many))
        turns = ((0,),) + tuple((2 * at - 1, 2 * at) for at in range(1, many)) + ((2 * many - 1,),)
        bare = ((B,) + (A,) * many, arcs, turns)
        chart = bare + ((), ((NONE, tuple(charts.walks_of(bare)), ()),))
        text = code(chart)
        self.assertIn(" 1039A", text)
        self.assertEqual(code(map_of(text)), text)

    def test_far_within(self):
        rings = tuple((A, ring + 1, ring) for ring in range(1499))
        chart = ((), (), (), rings, (FACES,) + ((B, (), ()),) * 1499)
        text = code(chart)
        self.assertEqual(text, "[-" + "oA[B" * 1499 + "]" * 1500)
        self.assertEqual(code(map_of(text)), text)
        self.assertIs(is_code("[-" + "oA[B" * 790 + "]" * 790), False)
        self.assertIs(is_code("[" * 4000), False)
        self.assertIs(is_code("[-" + "(/A 1A" * 600), False)

    def test_faces_of_nets_within_faces_of_nets(self):
        inner = "[B]"
        for _ in range(40):
            inner = f"[B(/A 1A 0{inner})]"
        text = f"[-(/A 1A 0{inner})]"
        self.assertIs(is_code(text), True)
        self.assertEqual(code(map_of(text)), text)


class Large(unittest.TestCase):

    def test_a_net_with_many_darts_that_begin_its_code(self):
        for many in (2, 3, 40):
            bare = ((A,) * many, tuple((at, (at + 1) % many, A) for at in range(many)),
                    tuple(charts.from_least([2 * at, (2 * at - 1) % (2 * many)]) for at in range(many)))
            walks = charts.walks_of(bare)
            chart = bare + ((), tuple((label, (walk,), ()) for label, walk in zip((NONE, B), walks)))
            self.assertEqual(code(chart), recode.face_text(chart))

    def test_one_label_far_away_makes_the_difference(self):
        many = 30
        arcs = tuple((at, at + 1, A) for at in range(many))
        turns = ((0,),) + tuple((2 * at - 1, 2 * at) for at in range(1, many)) + ((2 * many - 1,),)
        told = set()
        for at in range(many // 2 + 1):
            bare = ((A,) * at + (B,) + (A,) * (many - at), arcs, turns)
            chart = bare + ((), ((NONE, tuple(charts.walks_of(bare)), ()),))
            told.add(code(chart))
            self.assertEqual(code(chart), recode.face_text(chart))
        self.assertEqual(len(told), many // 2 + 1)


if __name__ == "__main__":
    unittest.main()
