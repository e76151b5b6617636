import random
import unittest
from itertools import product

import charts
import recode
import repick
from charts import A, B, C, CUT, DISC, EMPTY, EYE, NESTED, NONE, STICK
from growing import any_numbers, renamed, some_maps
from helpers import at
from test_asked import cell_of
from test_plans import scenes
from test_renamings import led_scene, KEEPING, TURNING
from bentalike.asked import are_joined, meetings
from bentalike.checker import accepts
from bentalike.codes import code, turned_code
from bentalike.maps import turned
from bentalike.needless import is_least, least, steps, taken
from bentalike.picks import cells_in
from bentalike.plans import drawn, plan_of
from bentalike.reader import read_scene
from bentalike.renamings import alike, is_renaming, renaming
from bentalike.scenes import label_at

HALL = ("area", (at(0, 0), at(4, 0), at(4, 4), at(0, 4)))
HOME = (("A", HALL), ("B", ("either", ("rim", HALL), ("spot", at(2, 2)))))
SEAM = ((A, A), ((0, 1, A), (0, 1, A), (0, 1, A)), CUT[2], (), CUT[4])
BIG_A, BIG_B, EVERY = ("name", "A"), ("name", "B"), ("all",)
SIDES = ("keeps", "turns")
WHATEVER = (None, True, False, 0, 1, -1, "", "A", b"", [], {}, (), (None,), ((),), ((), ()), ((), (), ()), [()], {1},
            len,
            (((),),), ("face", 0), (("face", 0),), HOME, CUT, HALL, BIG_A, at(1, 1), (at(1, 1),) * 9, (None,) * 9)
# A scene that looks otherwise from behind.
ARMS = read_scene("A = path (0, 0) (2, 0) + path (0, 0) (0, 2); B = path (0, 0) (2, 0); C = path (0, 0) (-2, -1);")


def walked_down(chance, chart):
    """Steps in any order by which a map comes to a least one, and this one."""
    row = []
    while steps(chart):
        row.append(chance.choice(steps(chart)))
        chart = taken(chart, row[-1])
    return tuple(row), chart


class CheckerCase(unittest.TestCase):

    def check_taken(self, claim, *papers):
        for paper in papers:
            with self.subTest(claim=claim, paper=paper):
                self.assertIs(accepts(claim, paper), True)

    def check_refused(self, claim, *papers):
        for paper in papers:
            with self.subTest(claim=claim, paper=paper):
                self.assertIs(accepts(claim, paper), False)

    def check_no_claims(self, paper, *claims):
        """Claims that are none, with what would be a paper."""
        for claim in claims:
            self.check_refused(claim, paper)

    def check_bent_parts(self, claim, paper):
        """Whether a right claim with its paper is refused when it is bent at any of its parts."""
        self.check_taken(claim, paper)
        self.check_no_claims(paper, list(claim), claim[:-1], claim + (None,), claim + ((),), claim[1:], (claim,))
        for place in range(len(claim)):
            for other in (None, True, 0, "", "E", b"B", [], {}, (None,), [claim[place]], (claim[place],), len):
                if other != claim[place]:
                    self.check_refused(claim[:place] + (other,) + claim[place + 1:], paper)
        for other in WHATEVER:
            if other != paper:
                self.check_refused(claim, other)
        self.check_refused(claim, list(paper), paper + (None,), paper + ((),))
        for place in range(len(paper)):
            for other in (True, "", [], {}, (None,), [paper[place]], (paper[place],), len):
                self.check_refused(claim, paper[:place] + (other,) + paper[place + 1:])


class Labels(CheckerCase):

    def test_right_and_wrong_ones(self):
        for point, label in ((at(1, 1), A), (at(0, 0), ("A", "B")), (at(2, 2), ("A", "B")), (at(9, 9), NONE)):
            self.check_bent_parts(("label", HOME, point, label), ())
            for other in (NONE, A, B, ("A", "B"), ("C",), ("B", "A"), ("A", "A"), ["A"], "A", ("E",)):
                self.assertIs(accepts(("label", HOME, point, other), ()), other == label)
        self.check_refused(("label", HOME, ((2, 2), (1, 1)), A), ())
        self.check_refused(("label", HOME[::-1], at(1, 1), A), ())
        self.check_refused(("Label", HOME, at(1, 1), A), ())

    def test_of_random_scenes(self):
        chance = random.Random(361)
        for scene in scenes(362, 40):
            point = at(chance.randrange(5), chance.randrange(5))
            right = label_at(scene, point)
            for label in (NONE, A, B, ("A", "B"), ("A", "C"), right):
                self.assertIs(accepts(("label", scene, point, label), ()), label == right)


class Least(CheckerCase):

    def test_by_hand(self):
        paper = ((("arc", 1), ("pass", 0), ("pass", 0)), ((), (), (0,), (0, 1)))
        self.check_bent_parts(("least", SEAM, DISC), paper)
        self.check_taken(("least", SEAM, DISC), ((("arc", 1), ("pass", 1), ("pass", 0)), paper[1]))
        self.check_taken(("least", DISC, DISC), ((), paper[1]))
        self.check_taken(("least", EMPTY, EMPTY), ((), ((), (), (), (0,))))
        self.check_taken(("least", STICK, STICK), ((), ((1, 0), (1, 0), (), (0,))), ((), ((0, 1), (0, 1), (), (0,))))

    def test_steps_that_cannot_be_taken_too_few_too_many(self):
        same = ((), (), (0,), (0, 1))
        for row in ((), (("arc", 1),), (("arc", 1), ("pass", 0)), (("arc", 1), ("pass", 0), ("pass", 0), ("ring", 0)),
                    (("pass", 0),), (("arc", 0),), (("arc", 1), ("pass", 0), ("pass", 1)), (("arc", 1), ("pass", 2)),
                    (("arc", 1), ("arc", 1), ("pass", 0), ("pass", 0)), (("arc", -2), ("pass", 0), ("pass", 0)),
                    (("arc", True), ("pass", 0), ("pass", 0)), (("arc", 1), ("pass", False), ("pass", 0)),
                    (["arc", 1], ("pass", 0), ("pass", 0)), [("arc", 1), ("pass", 0), ("pass", 0)],
                    (("arc", 1, 1), ("pass", 0), ("pass", 0)), (("Arc", 1), ("pass", 0), ("pass", 0)),
                    (("arc", 1), ("pass", 0), ("pass", -1)), (("arc", 1), ("pass", 10 ** 30), ("pass", 0)),
                    (("arc", "1"), ("pass", 0), ("pass", 0)), (1, ("pass", 0), ("pass", 0)), "arc",
                    ((["arc"], 1), ("pass", 0), ("pass", 0)), (("arc", (1,)), ("pass", 0), ("pass", 0)), None):
            self.check_refused(("least", SEAM, DISC), (row, same))

    def test_words_of_steps(self):
        dotted = ((NONE,), (), ((),), (), ((NONE, (), (0,)),))
        same = ((), (), (), (0,))
        self.check_taken(("least", dotted, EMPTY), ((("spot", 0),), same))
        for word in ("Spot", "", "special", "ring", "pass", "arc", None, 0, b"spot", ("spot",), ["spot"], {}):
            self.check_refused(("least", dotted, EMPTY), (((word, 0),), same))

    def test_others_that_are_not_the_least_map(self):
        row = (("arc", 1), ("pass", 0), ("pass", 0))
        for other in (SEAM, EYE, EMPTY, STICK, ((), (), (), ((B, 1, 0),), ((NONE, (), ()), (A, (), ())))):
            self.check_refused(("least", SEAM, other), (row, ((), (), (0,), (0, 1))), (row, ((), (), (0,), (0,))))
        self.check_refused(("least", SEAM, SEAM), ((), ((0, 1), (0, 1, 2, 3, 4, 5), (), (0, 1, 2))))

    def test_any_order_of_steps_and_any_renaming(self):
        chance = random.Random(363)
        for chart in some_maps(364, 80, 14):
            row, left = walked_down(chance, chart)
            numbers = any_numbers(chance, left)
            self.check_taken(("least", chart, renamed(left, numbers)), (row, numbers))
            other = renamed(left, numbers)
            self.check_taken(("least", chart, least(chart)), (row, renaming(left, least(chart), "keeps")))
            for paper in ((row[:-1], numbers), (row + row[-1:], numbers), (row[1:], numbers), (row[::-1], numbers)):
                # What is refused above may be right for few steps alike; never is it taken for another map.
                if accepts(("least", chart, other), paper):
                    self.assertEqual(len(paper[0]), len(row))
            if numbers[0] and len(set(left[0])) > 1:
                self.check_refused(("least", chart, other), (row, (numbers[0][1:] + numbers[0][:1],) + numbers[1:]))

    def test_each_step_is_one_of_the_map_that_taken_tells(self):
        chance = random.Random(365)
        wrong = 0
        for chart in some_maps(366, 60, 12, (NONE, NONE, A)):
            row = tuple((chance.choice(("arc", "pass", "ring", "spot")), chance.randrange(4)) for _ in range(3))
            row, left = walked_down(chance, chart) if chance.random() < 0.5 else (row, chart)
            place = chance.randrange(len(row) + 1)
            row = row[:place] + tuple((word, number + chance.choice((0, 0, 1))) for word, number in row[place:])
            reached = chart
            for step in row:
                reached = None if reached is None or step not in steps(reached) else taken(reached, step)
            right = reached is not None and is_least(reached)
            wrong += not right
            numbers = any_numbers(chance, reached if right else left)
            other = renamed(reached if right else left, numbers)
            self.assertIs(accepts(("least", chart, other), (row, numbers)), right)
        self.assertGreater(wrong, 10)


class Renamed(CheckerCase):

    def test_by_hand(self):
        self.check_bent_parts(("renamed", STICK, STICK, "keeps"), ((1, 0), (1, 0), (), (0,)))
        self.check_taken(("renamed", STICK, STICK, "turns"), ((1, 0), (1, 0), (), (0,)), ((0, 1), (0, 1), (), (0,)))
        self.check_refused(("renamed", STICK, STICK, "keeps"), ((1, 0), (0, 1), (), (0,)), ((0, 0), (0, 0), (), (0,)))

    def test_it_is_a_renaming_of_the_side_that_is_told(self):
        chance = random.Random(367)
        for chart in some_maps(368, 40, 9):
            numbers = any_numbers(chance, chart)
            for side, other in (("keeps", renamed(chart, numbers)), ("turns", renamed(turned(chart), numbers))):
                self.check_taken(("renamed", chart, other, side), numbers)
                for told in SIDES:
                    paper = any_numbers(chance, chart)
                    for row in (numbers, paper, list(numbers), numbers[:3]):
                        self.assertIs(accepts(("renamed", chart, other, told), row), is_renaming(chart, other, told,
                                                                                                 row))

    def test_all_renamings_of_small_maps(self):
        for chart in (STICK, DISC, CUT, EYE):
            for side in SIDES:
                for row in recode.all_renamings(chart, chart, side):
                    self.check_taken(("renamed", chart, chart, side), row)
        self.check_refused(("renamed", DISC, STICK, "keeps"), *WHATEVER)


class Bent(CheckerCase):

    def test_by_hand(self):
        disc, other = (("A", HALL),), (("A", ("area", (at(0, 0), at(5, 0), at(0, 5)))),)
        paper = ((("pass", 0),) * 4, ((), (), (0,), (0, 1)), (("pass", 0),) * 3)
        for side in SIDES:
            self.check_bent_parts(("bent", disc, other, side), paper)
            self.check_refused(("bent", disc, other, side), paper[:2] + (paper[0],), paper[::-1],
                               (paper[0][:3],) + paper[1:],
                               paper[:2] + (paper[2][:2],))
            self.check_refused(("not bent", disc, other, side), (), paper)
            self.check_refused(("bent", disc, (), side), (), paper, paper[:2] + ((),))
            self.check_bent_parts(("not bent", disc, (), side), ())
        self.check_taken(("bent", (), (), "turns"), ((), ((), (), (), (0,)), ()))
        self.check_refused(("not bent", (), (), "turns"), ())

    def test_scenes_led_by_one_side_and_by_the_other(self):
        chance = random.Random(369)
        for scene in [ARMS] + scenes(370, 25):
            for numbers, side in ((chance.choice(KEEPING), "keeps"), (chance.choice(TURNING), "turns")):
                other = led_scene(scene, numbers)
                row, left = walked_down(chance, plan_of(scene)[0])
                others, goal = walked_down(chance, plan_of(other)[0])
                paper = row, renaming(left, goal, side), others
                self.check_taken(("bent", scene, other, side), paper)
                self.check_refused(("not bent", scene, other, side), (), paper)
                away = SIDES[side == "keeps"]
                self.assertIs(accepts(("not bent", scene, other, away), ()), renaming(left, goal, away) is None)
                if renaming(left, goal, away) is None:
                    self.check_refused(("bent", scene, other, away), paper, ())

    def test_sides_of_a_scene_that_looks_otherwise_from_behind(self):
        chance = random.Random(371)
        other = led_scene(ARMS, TURNING[0])
        row, left = walked_down(chance, plan_of(ARMS)[0])
        others, goal = walked_down(chance, plan_of(other)[0])
        self.check_taken(("bent", ARMS, other, "turns"), (row, renaming(left, goal, "turns"), others))
        self.check_refused(("bent", ARMS, other, "keeps"), (row, renaming(left, goal, "turns"), others))
        self.check_bent_parts(("not bent", ARMS, other, "keeps"), ())
        self.check_refused(("not bent", ARMS, other, "turns"), ())

    def test_of_random_pairs_of_scenes(self):
        told = scenes(372, 14, 2)
        for scene, other in product(told, told):
            for side, is_so in zip(SIDES, alike(scene, other)):
                self.assertIs(accepts(("not bent", scene, other, side), ()), not is_so)


class Drawn(CheckerCase):

    def test_any_plan_that_is_right(self):
        chance = random.Random(373)
        for chart in [CUT, EYE, STICK, DISC] + [least(each) for each in some_maps(374, 25, 12)]:
            plan = drawn(chart)
            row, left = walked_down(chance, plan[0])
            paper = row, renaming(left, chart, "keeps")
            self.check_taken(("drawn", chart, plan), paper)
            self.check_refused(("drawn", chart, plan), (row[:-1], paper[1]) if row else (), paper[::-1], paper[:1])
            if code(chart) != turned_code(chart):
                self.check_refused(("drawn", turned(chart), plan), paper)

    def test_bent_parts(self):
        plan = plan_of((("A", HALL),))
        paper = (("pass", 0),) * 4, ((), (), (0,), (0, 1))
        self.check_bent_parts(("drawn", DISC, plan), paper)

    def test_a_map_that_is_not_least_and_what_is_no_plan(self):
        plan = plan_of((("A", HALL),))
        chart = plan[0]
        same = tuple(tuple(range(len(row))) for row in (chart[0], chart[1] * 2, chart[3], chart[4]))
        self.check_refused(("drawn", chart, plan), ((), same), ((("pass", 0),) * 4, ((), (), (0,), (0, 1))))
        self.check_taken(("renamed", chart, chart, "keeps"), same)
        paper = (("pass", 0),) * 4, ((), (), (0,), (0, 1))
        for other in ((chart, plan[1][::-1]), (chart, plan[1][:3]), (DISC, ()), chart, list(plan), plan + ((),),
                      (turned(chart), plan[1]), (chart, plan[1][:3] + (at(1, 1),))):
            self.check_refused(("drawn", DISC, other), paper)
        self.check_taken(("drawn", DISC, (chart, plan[1][:3] + (at(9, 9),))), paper)

    def test_a_plan_of_another_map(self):
        paper = (("pass", 0),) * 4, ((), (), (0,), (0, 1))
        self.check_refused(("drawn", ((), (), (), ((B, 1, 0),), DISC[4]), plan_of((("A", HALL),))), paper)
        self.check_refused(("drawn", DISC, plan_of((("B", HALL),))), paper)


class Meetings(CheckerCase):

    def test_by_hand(self):
        nine = meetings(HOME, "A", "B")
        self.assertEqual(nine, (False, True, True, False, True, False, False, False, True))
        paper = (None, at(2, 2), at(1, 1), None, at(4, 3), None, None, None, at(5, 5))
        claim = ("meetings", HOME, "A", "B", nine)
        self.check_bent_parts(claim, paper)
        self.check_taken(claim, paper[:2] + (at(1, 3),) + paper[3:], paper[:4] + (at(0, 0),) + paper[5:],
                         paper[:8] + (at(-1, -1),))
        for place in range(9):
            for point in (None, at(2, 2), at(1, 1), at(4, 3), at(5, 5)):
                if point != paper[place]:
                    self.check_refused(claim, paper[:place] + (point,) + paper[place + 1:])

    def test_points_not_in_lowest_terms(self):
        claim = ("meetings", HOME, "A", "A", meetings(HOME, "A", "A"))
        paper = (at(1, 1), None, None, None, at(0, 2), None, None, None, at(9, 9))
        self.check_taken(claim, paper)
        for wrong in (((2, 2), (1, 1)), ((1, 1), (True, 1)), [(1, 1), (1, 1)], (1, 1), ((1, 1), (1, 1), (1, 1)), "11"):
            self.check_refused(claim, (wrong,) + paper[1:])

    def test_truths_that_are_others(self):
        nine = meetings(HOME, "A", "B")
        paper = (None, at(2, 2), at(1, 1), None, at(4, 3), None, None, None, at(5, 5))
        self.check_refused(("meetings", HOME, "A", "B", tuple(int(truth) for truth in nine)), paper)
        self.check_refused(("meetings", HOME, "A", "B", list(nine)), paper)
        for place in range(9):
            other = nine[:place] + (not nine[place],) + nine[place + 1:]
            for point in (None, paper[place], at(1, 1), at(2, 2), at(4, 4), at(7, 7)):
                self.check_refused(("meetings", HOME, "A", "B", other), paper[:place] + (point,) + paper[place + 1:])
        for wrong in (nine[:8], nine + (False,), (0,) + nine[1:], (None,) + nine[1:], ()):
            self.check_refused(("meetings", HOME, "A", "B", wrong), paper, paper[:8], paper + (None,), ())
        self.check_refused(("meetings", HOME, "B", "A", nine), paper)

    def test_of_random_scenes_with_any_points_that_are_in_both(self):
        chance = random.Random(375)
        for scene in scenes(376, 30):
            name, other = chance.choice("ABC"), chance.choice("ABC")
            nine = meetings(scene, name, other)
            thirds = [[("inner", told), ("rim", told), ("not", ("closure", told))] for told in (("name", name),
                                                                                                ("name", other))]
            chart = plan_of(scene)[0]
            paper = [None] * 9
            for point in [at(x, y) for x in range(-1, 5) for y in range(-1, 5)]:
                cell = cell_of(scene, point)
                for place, pair in enumerate(product(*thirds)):
                    if all(cell in cells_in(chart, pick) for pick in pair) and chance.random() < 0.8:
                        paper[place] = point
            right = [point is not None for point in paper] == list(nine)
            self.assertIs(accepts(("meetings", scene, name, other, nine), tuple(paper)), right)


class Joined(CheckerCase):

    def test_a_row_of_cells(self):
        # The square's vertices are (0, 0), (0, 4), (2, 2), (4, 0), (4, 4), its edges those from 0, 0, 1, 3.
        claim = ("joined", HOME, BIG_B, at(0, 0), at(4, 4))
        self.assertEqual(plan_of(HOME)[0][1], ((0, 1, ("A", "B")), (0, 3, ("A", "B")), (1, 4, ("A", "B")), (3, 4,
                                                                                                            ("A",
                                                                                                             "B"))))
        one = (("special", 0), ("arc", 0), ("special", 1), ("arc", 2), ("special", 4))
        other = (("special", 0), ("arc", 1), ("special", 3), ("arc", 3), ("special", 4))
        self.check_bent_parts(claim, one)
        self.check_taken(claim, other)
        for paper in (one[::-1], one[1:], one[:-1], one[:2] + one[3:], one + one[-1:], one[:1] + one, (),
                      one + other[::-1],
                      one[:3] + one[1:], (one[0], ("face", 1), one[-1]), (one[0], ("face", 0), one[-1]), (one[0],
                                                                                                          one[-1]),
                      (("special", False),) + one[1:], (("special", 0), ["arc", 0]) + one[2:], one[:4] + (("special",
                                                                                                           5),),
                      one[:1] + (("arc", -4),) + one[2:], (("vertex", 0),) + one[1:], one[:2] + (("special", 1, 0),)):
            self.check_refused(claim, paper)
        self.check_refused(("parted",) + claim[1:], (), one, tuple(sorted(one)), tuple(sorted(one + other[1:4])))

    def test_one_cell(self):
        self.check_taken(("joined", HOME, BIG_A, at(1, 1), at(3, 1)), (("face", 1),))
        self.check_taken(("joined", HOME, BIG_A, at(2, 2), at(2, 2)), (("special", 2),))
        self.check_taken(("joined", HOME, EVERY, at(9, 9), at(-9, 9)), (("face", 0),))
        self.check_refused(("joined", HOME, BIG_A, at(1, 1), at(2, 2)), (("face", 1),), (("special", 2),))
        self.check_taken(("joined", HOME, BIG_A, at(1, 1), at(2, 2)), (("face", 1), ("special", 2)))

    def test_points_out_of_the_pick(self):
        self.check_refused(("joined", HOME, BIG_A, at(1, 1), at(9, 9)), (("face", 1),), (("face", 1), ("arc", 0),
                                                                                         ("face", 0)))
        self.check_refused(("joined", HOME, BIG_A, at(9, 9), at(9, 9)), (("face", 0),))
        self.check_refused(("parted", HOME, BIG_A, at(1, 1), at(9, 9)), (("face", 1),))
        self.check_refused(("parted", HOME, BIG_A, at(9, 9), at(1, 1)), (("face", 0),), ())
        self.check_refused(("joined", HOME, ("less", BIG_A, BIG_B), at(1, 1), at(3, 3)), (
            ("face", 1), ("special", 2), ("face", 1)))

    def test_parted(self):
        claim = ("parted", HOME, BIG_B, at(0, 0), at(2, 2))
        rim = tuple([("arc", k) for k in range(4)] + [("special", k) for k in (0, 1, 3, 4)])
        self.check_bent_parts(claim, rim)
        back = ("parted", HOME, BIG_B, at(2, 2), at(0, 0))
        self.check_taken(back, (("special", 2),))
        for paper in (rim[:-1], rim[1:], rim + (("special", 2),), tuple(sorted(rim + (("special", 2),))), rim[::-1], (),
                      rim + rim[-1:], rim[:1] + rim, (("special", 2),), tuple(sorted(rim + (("face", 1),))),
                      (("arc", False),) + rim[1:], (("arc", 0), ("arc", True)) + rim[2:], rim[1:2] + rim[:1] + rim[2:]):
            self.check_refused(claim, paper)
        self.check_refused(("joined",) + claim[1:], rim, (("special", 0), ("special", 2)), (
            ("special", 0), ("face", 1), ("special", 2)), (("special", 0), ("arc", 0), ("face", 1), ("special", 2)))
        self.check_refused(back, rim)

    def test_more_pieces_than_one_may_be_told(self):
        scene = read_scene("A = spot (0, 0) + spot (1, 0) + spot (2, 0);")
        claim = ("parted", scene, BIG_A, at(0, 0), at(2, 0))
        self.check_taken(claim, (("special", 0),), (("special", 0), ("special", 1)))
        self.check_refused(claim, (("special", 1),), (("special", 0), ("special", 2)), (("special", 1), ("special", 0)),
                           (("special", 0), ("special", 1), ("special", 2)), (("special", 0), ("special", 0)))

    def test_of_random_scenes(self):
        chance = random.Random(377)
        told = {}
        for scene in scenes(378, 120, 2):
            pick = repick.some_pick(chance, chance.randrange(1, 4), "AB")
            chart = plan_of(scene)[0]
            cells = repick.picked(chart, pick)
            spots = [spot for spot in plan_of(scene)[1] if cell_of(scene, spot) in cells]
            point, other = [chance.choice(spots + [at(chance.randrange(5), chance.randrange(5))]) for _ in range(2)]
            start, goal = cell_of(scene, point), cell_of(scene, other)
            pieces = repick.pieces(chart, cells)
            own = [piece for piece in pieces if start in piece]
            joined = ("joined", scene, pick, point, other)
            parted = ("parted", scene, pick, point, other)
            kind = start in cells and goal in cells and ("joined" if goal in own[0] else "parted")
            told[kind] = told.get(kind, 0) + 1
            self.assertIs(kind == "joined", are_joined(scene, pick, point, other))
            if kind == "joined":
                row = self.some_row(chance, chart, own[0], start, goal)
                self.check_taken(joined, row)
            else:
                self.check_refused(joined, (start, goal), (start,), (goal,), *[tuple(piece) for piece in pieces])
            more = [cell for piece in pieces if goal not in piece and chance.random() < 0.5 for cell in piece]
            papers = own + [tuple(sorted(set(more) | set(own[0] if own else ())))] + list(pieces)
            for paper in papers:
                right = kind == "parted" and start in paper and goal not in paper
                self.assertIs(accepts(parted, tuple(paper)), right)
        self.assertEqual(set(told), {False, "joined", "parted"})

    def some_row(self, chance, chart, piece, start, goal):
        """Any row of unlike neighbours of a piece."""
        row, seen = [start], {start}
        while row[-1] != goal:
            near = [cell for cell in piece if cell not in seen and repick.are_neighbours(chart, row[-1], cell)]
            if near:
                row.append(chance.choice(near))
                seen.add(row[-1])
            else:
                row.pop()
        return tuple(row)


class Reads(CheckerCase):

    def test_right_and_wrong_ones(self):
        text = "let h = area (0, 0) (4, 0) (4, 4) (0, 4); A = h; B = rim h + spot (2, 4/2);"
        self.check_bent_parts(("reads", text, HOME), ())
        self.check_refused(("reads", text, HOME[:1]), ())
        self.check_refused(("reads", text[:-1], HOME), ())
        self.check_taken(("reads", "", ()), ())
        self.check_taken(("reads", "# " + text, ()), ())
        for place in (None, 0, len(text), -1):
            self.check_refused(("reads not", text, place), ())

    def test_right_and_wrong_places(self):
        for text, place in (("A = ", 4), ("!", 0), ("A = spot (1, 1/0); A = path (0, 0) (0, 0);", 15), ("A", 1),
                            ("AA", 1)):
            if place > 0:
                self.check_bent_parts(("reads not", text, place), ())
            self.check_taken(("reads not", text, place), ())
            for other in (-1, 0, 1, 4, 15, 16, True, False, None, "4", (4,)):
                self.assertIs(accepts(("reads not", text, other), ()), other is not True and other is not False
                              and other == place)
            self.check_refused(("reads", text, ()), ())
            self.check_refused(("reads", text, HOME), ())
        for value in (None, 5, b"", ("A",), ["A = "]):
            self.check_refused(("reads not", value, None), ())
            self.check_refused(("reads not", value, 0), ())


class Whatever(CheckerCase):

    def test_papers_of_other_claims(self):
        disc = (("A", HALL),)
        pairs = (
            (("label", HOME, at(1, 1), A), ()), (("not bent", HOME, disc, "keeps"), ()), (("reads", "", ()), ()),
            (("least", SEAM, DISC), ((("arc", 1), ("pass", 0), ("pass", 0)), ((), (), (0,), (0, 1)))),
            (("renamed", DISC, DISC, "keeps"), ((), (), (0,), (0, 1))),
            (("drawn", DISC, plan_of(disc)), ((("pass", 0),) * 4, ((), (), (0,), (0, 1)))),
            (("bent", disc, disc, "turns"), ((("pass", 0),) * 4, ((), (), (0,), (0, 1)), (("pass", 0),) * 4)),
            (("joined", HOME, BIG_A, at(1, 1), at(3, 1)), (("face", 1),)),
            (("parted", HOME, BIG_B, at(2, 2), at(0, 0)), (("special", 2),)),
            (("meetings", HOME, "A", "A", meetings(HOME, "A", "A")), (
                at(1, 1), None, None, None, at(0, 2), None, None, None, at(9, 9))), (("reads not", "A", 1), ()))
        for claim, right in pairs:
            for _, paper in pairs:
                self.assertIs(accepts(claim, paper), paper == right)
            words = {other[0] for other, _ in pairs} - {claim[0]}
            for word in words | {"", "Label", "not", "bend", "joined "}:
                self.check_refused((word,) + claim[1:], right)

    def test_values_of_all_kinds(self):
        for claim in WHATEVER:
            self.check_refused(claim, *WHATEVER)
        for word in ("label", "least", "renamed", "bent", "not bent", "drawn", "meetings", "joined", "parted", "reads",
                     "reads not", "", "x"):
            for first, other in product(WHATEVER[::3], WHATEVER[::4]):
                for claim in ((word, first, other), (word, first, other, first), (word, first, other, first, other),
                              [word],
                              (word,), (word, first), (word,) + (first,) * 9):
                    if claim[:2] not in (("reads", ""), ("reads not", ""), ("reads", "A"), ("reads not", "A")):
                        self.check_refused(claim, (), None)

    def test_claims_that_exclude_one_another(self):
        chance = random.Random(379)
        told = scenes(380, 12, 2)
        for scene, other in product(told[:6], told):
            row, left = walked_down(chance, plan_of(scene)[0])
            others, goal = walked_down(chance, plan_of(other)[0])
            for side in SIDES:
                found = renaming(left, goal, side)
                bent = accepts(("bent", scene, other, side), (row, found, others))
                self.assertNotEqual(bent, accepts(("not bent", scene, other, side), ()))


if __name__ == "__main__":
    unittest.main()
