import random
import unittest
from fractions import Fraction
from math import factorial

import places
import recode
from charts import A, ALL, B, C, CUT, DISC, EMPTY, EYE, LOOP, NESTED, NONE, RINGS, STICK
from growing import any_numbers, mirrored, renamed, some_maps
from helpers import at, failure
from test_codes import ARMS, wheel
from test_needless import flower, star
from test_scenes import some_scene
from bentalike import errors
from bentalike.codes import code, turned_code
from bentalike.needless import least, least_map
from bentalike.plans import plan_of
from bentalike.maps import turned
from bentalike.renamings import alike, is_renaming, many_renamings, renaming
from bentalike.scenes import is_scene

SIDES = ("keeps", "turns")
SMALL = tuple(chart for chart in some_maps(51, 400, 5, (NONE, NONE, A))
              if len(chart[0]) < 4 and len(chart[1]) < 4 and len(chart[3]) < 3)[:40]
ALIKE = ((A, A, A), (), ((), (), ()), (), ((NONE, (), (0, 1, 2)),))
SPOTS = ((A, A, B), (), ((), (), ()), (), ((NONE, (), (0, 1, 2)),))


class AsTheDocumentWordsIt(unittest.TestCase):

    def test_all_there_are(self):
        told = {}
        some = (DISC, STICK, EYE, LOOP, CUT, SPOTS, ALIKE, star(A, (C, C, C)))
        for chart in SMALL[:12] + some:
            for other in SMALL[:25] + some:
                for side in SIDES:
                    rows = recode.all_renamings(chart, other, side)
                    self.assertEqual(many_renamings(chart, other, side), len(rows))
                    found = renaming(chart, other, side)
                    self.assertTrue(found in rows if rows else found is None)
                    for row in rows:
                        self.assertIs(is_renaming(chart, other, side, row), True)
                    told[len(rows)] = told.get(len(rows), 0) + 1
        self.assertEqual(set(told), {0, 1, 2, 3, 6})

    def test_those_between_maps_numbered_anew(self):
        chance = random.Random(52)
        for chart in ALL + (ARMS,) + tuple(some_maps(53, 80, 14)):
            numbers = any_numbers(chance, chart)
            for side, seen in (("keeps", chart), ("turns", mirrored(chart))):
                other = renamed(seen, numbers)
                self.assertIs(is_renaming(chart, other, side, numbers), True)
                found = renaming(chart, other, side)
                self.assertIs(is_renaming(chart, other, side, found), True)
                self.assertTrue(recode.is_led(chart, other, side, found))

    def test_what_changes_in_one_place_is_one_only_if_the_document_says_so(self):
        chance = random.Random(54)
        told = {True: 0, False: 0}
        for chart in ALL + (ARMS, SPOTS, wheel((A, A, A))) + tuple(some_maps(55, 40, 9)):
            for side in SIDES:
                other = renamed(chart if side == "keeps" else mirrored(chart), any_numbers(chance, chart))
                for row in exchanged(renaming(chart, other, side)):
                    truth = recode.is_led(chart, other, side, row)
                    self.assertIs(is_renaming(chart, other, side, row), truth)
                    told[truth] += 1
        self.assertGreater(told[True], 1)
        self.assertGreater(told[False], 100)

    def test_a_code_in_common_exactly_if_there_is_one(self):
        charts = SMALL[:30] + ALL + (ARMS, turned(ARMS))
        for chart in charts:
            for other in charts:
                self.assertIs(renaming(chart, other, "keeps") is not None, code(chart) == code(other))
                self.assertIs(renaming(chart, other, "turns") is not None, code(chart) == turned_code(other))


def exchanged(renaming):
    """The renaming with each two numbers of one row exchanged."""
    for at_row, row in enumerate(renaming):
        for high in range(len(row)):
            for low in range(high):
                other = list(row)
                other[low], other[high] = row[high], row[low]
                yield renaming[:at_row] + (tuple(other),) + renaming[at_row + 1:]


class NoRenamings(unittest.TestCase):

    def check_wrong(self, chart, value):
        for side in SIDES:
            self.assertIs(is_renaming(chart, chart, side, value), False, value)

    def test_other_values(self):
        good = renaming(EYE, EYE, "keeps")
        for value in (None, True, 0, "", "keeps", (), [], {}, EYE, list(good), good[:3], good + ((),), (good,),
                      (0, 1, 2, 3),
                      ("", "", "", ""), (None,) * 4, ((),) * 4, object(), b"1234", ([],) * 4):
            self.check_wrong(EYE, value)

    def test_in_each_place_another_value(self):
        for chart in (CUT, EYE, NESTED, SPOTS):
            good = renaming(chart, chart, "keeps")
            for at_row, row in enumerate(good):
                for other in (list(row), row[:-1], row + (0,), row + (len(row),), None, 0, "01", {}) if row else ():
                    self.check_wrong(chart, good[:at_row] + (other,) + good[at_row + 1:])
                for index in range(len(row)):
                    for value in (-1, len(row), 10 ** 500, None, "0", (0,), [0], -row[index] - 1, row[index] - len(row),
                                  bool(row[index]), str(row[index])):
                        other = row[:index] + (value,) + row[index + 1:]
                        self.check_wrong(chart, good[:at_row] + (other,) + good[at_row + 1:])

    def test_each_number_once(self):
        self.check_wrong(SPOTS, ((0, 0, 2), (), (), (0,)))
        self.assertIs(is_renaming(SPOTS, SPOTS, "keeps", ((1, 0, 2), (), (), (0,))), True)
        self.check_wrong(SPOTS, ((2, 1, 0), (), (), (0,)))
        self.check_wrong(STICK, ((0, 1), (0, 0), (), (0,)))
        self.check_wrong(STICK, ((0, 1), (1, 0), (), (0,)))

    def test_of_maps_of_unlike_size(self):
        for chart in ALL:
            for other in ALL:
                if [len(row) for row in chart] != [len(row) for row in other]:
                    for told in (renaming(chart, chart, "keeps"), renaming(other, other, "keeps")):
                        self.assertIs(is_renaming(chart, other, "keeps", told), False)
                    self.assertIsNone(renaming(chart, other, "keeps"))
                    self.assertEqual(many_renamings(chart, other, "turns"), 0)

    def test_the_outer_face_goes_to_the_outer_face(self):
        pair = ((), (), (), ((A, 1, 0),), ((NONE, (), ()), (NONE, (), ())))
        self.assertIs(is_renaming(pair, pair, "keeps", ((), (), (0,), (0, 1))), True)
        self.assertIs(is_renaming(pair, pair, "keeps", ((), (), (0,), (1, 0))), False)
        loop = ((A,), ((0, 0, A),), ((0, 1),), (), ((NONE, ((0,),), ()), (NONE, ((1,),), ())))
        self.assertIs(is_renaming(loop, loop, "keeps", ((0,), (1, 0), (), (1, 0))), False)
        self.assertIs(is_renaming(loop, loop, "turns", ((0,), (1, 0), (), (0, 1))), True)

    def test_of_the_other_side(self):
        told = renaming(ARMS, ARMS, "keeps")
        self.assertIs(is_renaming(ARMS, ARMS, "keeps", told), True)
        self.assertIs(is_renaming(ARMS, ARMS, "turns", told), False)
        told = renaming(ARMS, turned(ARMS), "turns")
        self.assertIs(is_renaming(ARMS, turned(ARMS), "turns", told), True)
        self.assertIs(is_renaming(ARMS, turned(ARMS), "keeps", told), False)

    def test_a_turn_of_two_is_kept_and_turned(self):
        told = renaming(STICK, STICK, "keeps")
        self.assertIs(is_renaming(STICK, STICK, "turns", told), True)

    def test_a_spot_in_another_face(self):
        chart = ((A, A), (), ((), ()), ((B, 1, 0), (B, 2, 0)), ((NONE, (), ()), (C, (), (0,)), (C, (), (1,))))
        self.assertIs(is_renaming(chart, chart, "keeps", ((0, 1), (), (0, 1), (0, 1, 2))), True)
        self.assertIs(is_renaming(chart, chart, "keeps", ((1, 0), (), (0, 1), (0, 1, 2))), False)
        self.assertIs(is_renaming(chart, chart, "keeps", ((1, 0), (), (1, 0), (0, 2, 1))), True)
        self.assertIs(is_renaming(chart, chart, "keeps", ((0, 1), (), (1, 0), (0, 2, 1))), False)
        self.assertIs(is_renaming(chart, chart, "keeps", ((0, 1), (), (1, 0), (0, 1, 2))), False)
        self.assertIs(is_renaming(chart, chart, "keeps", ((0, 1), (), (0, 1), (0, 2, 1))), False)


class HowMany(unittest.TestCase):

    def test_by_hand(self):
        told = ((EMPTY, 1), (DISC, 1), (STICK, 2), (CUT, 2), (EYE, 1), (LOOP, 1), (RINGS, 1), (NESTED, 4), (SPOTS, 2),
                (ARMS, 1), (star(A, (A, A, A)), 3), (star(A, (A, B, A, B)), 2), (star(A, (A,) * 7), 7),
                (flower(A, (A, A, A), (B, B, B)), 3), (flower(A, (A, A, A), (B, B, C)), 1), (wheel((A, A)), 2),
                (wheel((A,) * 5), 2))
        for chart, many in told:
            self.assertEqual(many_renamings(chart, chart, "keeps"), many)

    def test_as_the_document_counts_them(self):
        for labels in ((NONE,), (NONE, A, B)):
            for chart in some_maps(56, 80, 12, labels):
                many = recode.many_of_face(chart)
                self.assertEqual(many_renamings(chart, chart, "keeps"), many)
                self.assertEqual(many_renamings(chart, turned(chart), "turns"), many)
                turns = many if code(chart) == turned_code(chart) else 0
                self.assertEqual(many_renamings(chart, chart, "turns"), turns)
                self.assertEqual(many_renamings(chart, turned(chart), "keeps"), turns)

    def test_parts_alike(self):
        for many in (1, 2, 5, 40):
            spots = ((A,) * many, (), ((),) * many, (), ((NONE, (), tuple(range(many))),))
            self.assertEqual(many_renamings(spots, spots, "keeps"), factorial(many))
        # Three rings with two spots in each.
        chart = ((A,) * 6, (), ((),) * 6, tuple((B, ring + 1, 0) for ring in range(3)),
                 ((NONE, (), ()),) + tuple((NONE, (), (2 * ring, 2 * ring + 1)) for ring in range(3)))
        self.assertEqual(many_renamings(chart, chart, "turns"), 6 * 2 ** 3)

    def test_of_many_spots(self):
        many = 2999
        spots = ((A,) * many, (), ((),) * many, (), ((NONE, (), tuple(range(many))),))
        self.assertEqual(many_renamings(spots, spots, "keeps"), factorial(many))
        self.assertIs(is_renaming(spots, spots, "keeps", (tuple(range(many))[::-1], (), (), (0,))), True)

    def test_from_one_to_another_one_as_many(self):
        chance = random.Random(57)
        for chart in some_maps(58, 60, 12, (NONE, A)):
            other = renamed(chart, any_numbers(chance, chart))
            for side in SIDES:
                self.assertEqual(many_renamings(chart, other, side), many_renamings(chart, chart, side))

    def test_none(self):
        for chart, other in ((DISC, STICK), (STICK, DISC), (EMPTY, DISC), (CUT, NESTED), (ARMS, turned(ARMS))):
            self.assertEqual(many_renamings(chart, other, "keeps"), 0)
            self.assertIsNone(renaming(chart, other, "keeps"))

    def test_of_nothing_at_all(self):
        for side in SIDES:
            self.assertEqual(renaming(EMPTY, EMPTY, side), ((), (), (), (0,)))

    def test_far_within(self):
        rings = tuple((A, ring + 1, ring) for ring in range(1499))
        chart = ((), (), (), rings, ((NONE, (), ()),) * 1500)
        told = renaming(chart, chart, "turns")
        self.assertEqual(told, ((), (), tuple(range(1499)), tuple(range(1500))))
        self.assertEqual(many_renamings(chart, chart, "keeps"), 1)


def led(figure, numbers):
    """The figure, or point, with each point (x, y) at (a x + b y + e, c x + d y + f)."""
    if isinstance(figure[0], tuple) and isinstance(figure[0][0], int):
        a, b, c, d, e, f = numbers
        x, y = Fraction(*figure[0]), Fraction(*figure[1])
        return at(a * x + b * y + e, c * x + d * y + f)
    return tuple(part if isinstance(part, str) else led(part, numbers) for part in figure)


def led_scene(scene, numbers):
    return tuple((name, led(figure, numbers)) for name, figure in scene)


SQUARE = ("area", (at(0, 0), at(4, 0), at(4, 4), at(0, 4)))
TRIANGLE = ("area", (at(7, 1), at(9, 1), at(8, 5)))
CHIRAL = (("A", ("either", SQUARE, ("path", (at(4, 4), at(6, 6))))), ("B", ("path", (at(4, 4), at(5, 7)))),
          ("C", ("path", (at(0, 0), at(-1, -1), at(-3, 0)))))
FLAT = (2, 1, Fraction(1, 3), 1, 5, -7)
TURNING = ((0, 1, 1, 0, 0, 0), (-1, 0, 0, 1, 2, 3), (1, 3, 1, 1, 0, Fraction(1, 7)))
KEEPING = ((1, 0, 0, 1, 9, -9), (0, -1, 1, 0, 0, 0), FLAT, (-1, 0, 0, -1, 0, 1))


class Alike(unittest.TestCase):

    def test_led_so_that_sides_are_kept_and_turned(self):
        self.assertEqual(alike(CHIRAL, CHIRAL), (True, False))
        for numbers in KEEPING:
            self.assertEqual(alike(CHIRAL, led_scene(CHIRAL, numbers)), (True, False))
            self.assertEqual(alike(led_scene(CHIRAL, numbers), CHIRAL), (True, False))
        for numbers in TURNING:
            self.assertEqual(alike(CHIRAL, led_scene(CHIRAL, numbers)), (False, True))
            self.assertEqual(alike(led_scene(CHIRAL, numbers), CHIRAL), (False, True))

    def test_random_scenes(self):
        chance = random.Random(59)
        found = set()
        for _ in range(120):
            scene = some_scene(chance, 2, 4)
            if is_scene(scene):
                told = alike(scene, scene)
                self.assertIs(told[0], True)
                found.add(told)
                for numbers in (FLAT, KEEPING[1]):
                    self.assertEqual(alike(scene, led_scene(scene, numbers)), told)
                self.assertEqual(alike(scene, led_scene(scene, TURNING[2])), told[::-1])
        self.assertEqual(found, {(True, True), (True, False)})

    def test_bent_otherwise(self):
        bent = ("area", (at(7, 1), at(9, 1), at(8, 2), at(12, 9), at(8, 5), at(0, 20)))
        for scene, other, told in (
                ((("A", SQUARE),), (("A", TRIANGLE),), True), ((("A", SQUARE),), (("A", bent),), True),
                ((("A", SQUARE),), (("B", SQUARE),), False), ((("A", SQUARE),), (), False), ((), (), True),
                ((), (("D", ("less", SQUARE, SQUARE)),), True),
                ((("A", SQUARE), ("B", TRIANGLE)), (("A", TRIANGLE), ("B", SQUARE)), True),
                ((("A", SQUARE), ("B", ("spot", at(1, 1)))), (("A", SQUARE), ("B", ("spot", at(3, 2)))), True),
                ((("A", SQUARE), ("B", ("spot", at(1, 1)))), (("A", SQUARE), ("B", ("spot", at(4, 2)))), False),
                ((("A", SQUARE), ("B", ("spot", at(0, 0)))), (("A", SQUARE), ("B", ("spot", at(4, 2)))), True),
                ((("A", ("rim", SQUARE)),), (("A", ("path", (at(0, 0), at(1, 0), at(0, 1), at(0, 0)))),), True),
                ((("A", ("either", SQUARE, TRIANGLE)),), (("A", SQUARE),), False)):
            self.assertEqual(alike(scene, other), (told, told))
            self.assertEqual(alike(other, scene), (told, told))

    def test_told_by_other_figures_and_with_seams(self):
        seam = ("either", ("less", SQUARE, ("path", (at(1, 0), at(1, 4)))), ("path", (at(1, 0), at(1, 4))))
        others = [seam, ("closure", ("inner", SQUARE)), ("either", ("rim", SQUARE), ("inner", SQUARE)),
                  ("either", ("area", (at(0, 0), at(4, 0), at(4, 4))), ("area", (at(0, 0), at(4, 4), at(0, 4))))]
        for figure in others:
            figure = ("either", figure, CHIRAL[0][1][2])
            self.assertEqual(alike(CHIRAL, (("A", figure),) + CHIRAL[1:]), (True, False))

    def test_the_least_map_tells(self):
        chance = random.Random(60)
        scenes = []
        while len(scenes) < 40:
            scene = (("A", places.some_figure(chance, chance.randrange(1, 3), 3)),)
            if is_scene(scene):
                scenes.append(scene)
        alike_ones = 0
        for scene in scenes:
            for other in scenes:
                told = code(least_map(scene)), code(least_map(other)), turned_code(least_map(other))
                self.assertEqual(alike(scene, other), (told[0] == told[1], told[0] == told[2]))
                alike_ones += told[0] == told[1]
        self.assertGreater(alike_ones, 60)

    def test_the_map_of_a_plan_may_be_unlike_where_its_least_map_is_alike(self):
        scene, other = (("A", SQUARE),), (("A", TRIANGLE),)
        self.assertIsNone(renaming(plan_of(scene)[0], plan_of(other)[0], "keeps"))
        self.assertEqual(renaming(least(plan_of(scene)[0]), least(plan_of(other)[0]), "keeps"), ((), (), (0,), (0, 1)))


class Wrong(unittest.TestCase):

    def test_sides(self):
        for side in ("keep", "turn", "Keeps", "", "keepsturns", b"keeps", None, True, 0, 1, ("keeps",), ["keeps"], ()):
            for call in ((renaming, ()), (many_renamings, ()), (is_renaming, (None,))):
                error = failure(call[0], DISC, DISC, side, *call[1])
                self.assertIs(error.__class__, errors.InvalidSide)
                self.assertIs(error.given, side)


if __name__ == "__main__":
    unittest.main()
