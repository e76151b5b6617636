import random
import unittest
from itertools import product

import repick
from charts import A, ALL, C, CUT, DISC, EMPTY, NONE
from growing import grown, some_maps
from helpers import at, failure
from test_asked import cell_of
from test_checker import ARMS, BIG_A, BIG_B, EVERY, HOME, SEAM, SIDES
from test_plans import scenes
from test_renamings import KEEPING, TURNING, led_scene
from bentalike import errors
from bentalike.asked import are_joined, meetings
from bentalike.certificates import (
    certify_bent, certify_drawn, certify_joined, certify_least, certify_meetings, certify_read
)
from bentalike.checker import accepts
from bentalike.codes import code
from bentalike.needless import is_least, least
from bentalike.picks import cells_in
from bentalike.plans import is_plan, plan_of
from bentalike.printer import scene_text
from bentalike.reader import read_scene
from bentalike.renamings import alike


class CertificateCase(unittest.TestCase):

    def check_accepted(self, pair, claim):
        """Whether what a certificate tells is this claim with a paper that is accepted."""
        self.assertIsInstance(pair, tuple)
        self.assertEqual(pair[0], claim)
        self.assertEqual(len(pair), 2)
        self.assertIs(accepts(*pair), True)


class Maps(CertificateCase):

    def test_least(self):
        for chart in ALL + (SEAM,) + tuple(some_maps(381, 150, 25)) + tuple(some_maps(382, 80, 25, (NONE, NONE, A))):
            claim, paper = certify_least(chart)
            self.check_accepted((claim, paper), ("least", chart, claim[2]))
            self.assertIs(is_least(claim[2]), True)
            self.assertEqual(code(claim[2]), code(least(chart)))

    def test_least_of_large_maps(self):
        many = 900
        arcs = tuple((k, (k + 1) % many, A) for k in range(many))
        turns = tuple((2 * k - 1, 2 * k) if k else (0, 2 * many - 1) for k in range(many))
        walks = tuple(range(0, 2 * many, 2)), tuple([1] + list(range(2 * many - 1, 2, -2)))
        chart = ((A,) * many, arcs, turns, (), ((NONE, walks[1:], ()), (A, walks[:1], ())))
        claim, paper = certify_least(chart)
        self.assertEqual((claim[2], len(paper[0])), (DISC, many))
        self.check_accepted((claim, paper), ("least", chart, DISC))

    def test_drawn(self):
        for chart in (EMPTY, DISC, CUT) + tuple(least(each) for each in some_maps(383, 60, 16)):
            if sum(len(chart[row]) for row in (0, 1, 3)) <= 80:
                claim, paper = certify_drawn(chart)
                self.check_accepted((claim, paper), ("drawn", chart, claim[2]))
                self.assertIs(is_plan(claim[2]), True)

    def test_drawn_of_what_is_not_least(self):
        for chart in (SEAM, plan_of(HOME)[0], (("A",), (), ((),), (), ((NONE, (), (0,)),))[:4], None, [DISC], 3):
            error = failure(certify_drawn, chart)
            self.assertIs(error.__class__, errors.InvalidMap)
            self.assertIs(error.given, chart)

    def test_drawn_of_80_and_81(self):
        for many in (80, 81):
            chart = ((A,) * many, (), ((),) * many, (), ((NONE, (), tuple(range(many))),))
            if many == 80:
                self.check_accepted(certify_drawn(chart), certify_drawn(chart)[0])
            else:
                error = failure(certify_drawn, chart)
                self.assertEqual((error.__class__, error.given), (errors.TooMany, 81))
        needless = ((NONE,) * 90, (), ((),) * 90, (), ((NONE, (), tuple(range(90))),))
        self.assertIs(failure(certify_drawn, needless).__class__, errors.InvalidMap)


class Scenes(CertificateCase):

    def test_bent_and_not_bent(self):
        told = {}
        some = [(), HOME, ARMS] + scenes(384, 12, 2)
        for scene, other in product(some, some):
            for side, is_so in zip(SIDES, alike(scene, other)):
                word = "bent" if is_so else "not bent"
                self.check_accepted(certify_bent(scene, other, side), (word, scene, other, side))
                told[word, side] = True
        self.assertEqual(len(told), 4)

    def test_bent_scenes_led(self):
        for scene in [ARMS, HOME] + scenes(385, 40, 4):
            for numbers, side in list(zip(KEEPING, SIDES[:1] * 9)) + list(zip(TURNING, SIDES[1:] * 9)):
                other = led_scene(scene, numbers)
                self.check_accepted(certify_bent(scene, other, side), ("bent", scene, other, side))
        other = led_scene(ARMS, TURNING[0])
        self.check_accepted(certify_bent(ARMS, other, "keeps"), ("not bent", ARMS, other, "keeps"))

    def test_not_bent_has_the_empty_paper(self):
        self.assertEqual(certify_bent(HOME, HOME[:1], "keeps"), (("not bent", HOME, HOME[:1], "keeps"), ()))

    def test_meetings(self):
        for scene in [(), HOME, ARMS] + scenes(386, 60):
            for name, other in (("A", "B"), ("B", "A"), ("C", "C"), ("D", "A")):
                claim = ("meetings", scene, name, other, meetings(scene, name, other))
                pair = certify_meetings(scene, name, other)
                self.check_accepted(pair, claim)
                self.assertEqual([point is not None for point in pair[1]], list(claim[4]))

    def test_joined_and_parted(self):
        chance = random.Random(387)
        told = {}
        for scene in [HOME] + scenes(388, 150, 2):
            pick = repick.some_pick(chance, chance.randrange(1, 4), "AB")
            inside = set(cells_in(plan_of(scene)[0], pick))
            points = list(plan_of(scene)[1]) + [at(x, y) for x in range(-1, 5) for y in range(-1, 5)]
            points = [point for point in points if cell_of(scene, point) in inside]
            for _ in range(3 if points else 0):
                point, other = chance.choice(points), chance.choice(points)
                word = "joined" if are_joined(scene, pick, point, other) else "parted"
                self.check_accepted(certify_joined(scene, pick, point, other), (word, scene, pick, point, other))
                away = {"joined": "parted", "parted": "joined"}[word]
                paper = certify_joined(scene, pick, point, other)[1]
                self.assertIs(accepts((away, scene, pick, point, other), paper), False)
                told[word] = told.get(word, 0) + 1
        self.assertGreater(min(told["joined"], told["parted"]), 4)

    def test_points_out_of_the_pick_are_told_last(self):
        inner, outer, other = at(1, 1), at(9, 9), at(8, 8)
        for points, wrong in (((outer, inner), 0), ((inner, outer), 1), ((outer, other), 0), ((outer, outer), 0)):
            error = failure(certify_joined, HOME, BIG_A, *points)
            self.assertIs(error.__class__, errors.InvalidPoint)
            self.assertIs(error.given, points[wrong])
        error = failure(certify_joined, HOME, BIG_A, outer, (1, 1))
        self.assertEqual((error.__class__, error.given), (errors.InvalidPoint, (1, 1)))
        error = failure(certify_joined, HOME, ("name", "C"), inner, inner)
        self.assertIs(error.given, inner)
        self.check_accepted(certify_joined(HOME, EVERY, outer, inner), ("joined", HOME, EVERY, outer, inner))
        self.check_accepted(certify_joined(HOME, ("not", BIG_B), inner, outer), (
            "parted", HOME, ("not", BIG_B), inner, outer))

    def test_read(self):
        for scene in [(), HOME] + scenes(389, 30):
            self.check_accepted(certify_read(scene_text(scene)), ("reads", scene_text(scene), scene))
        for text, place in (("A = ", 4), ("!", 0), ("A = x;", 4), ("A = spot (1, 1/0); A = path (0, 0) (0, 0);", 15)):
            self.assertEqual(certify_read(text), (("reads not", text, place), ()))
            self.check_accepted(certify_read(text), ("reads not", text, place))
        for value in (None, 1, b"", ["A"], ("A",)):
            error = failure(certify_read, value)
            self.assertEqual((error.__class__, error.spot), (errors.BadText, None))

    def test_scenes_of_as_many_segments_as_may_be(self):
        zigzag = ("path", tuple(at(11 * (k % 2), k) for k in range(12)))
        other = ("path", tuple(at(k, 11 * (k % 2)) for k in range(12)))
        scene = (("A", zigzag), ("B", ("either", other, ("path", (at(0, 0), at(11, 11), at(1, 12))))))
        chart = plan_of(scene)[0]
        self.assertGreater(len(chart[1]), 150)
        self.check_accepted(certify_bent(scene, scene, "keeps"), ("bent", scene, scene, "keeps"))
        left = certify_least(chart)[0][2]
        self.check_accepted(certify_least(chart), ("least", chart, left))
        self.check_accepted(certify_meetings(scene, "A", "B"), ("meetings", scene, "A", "B", meetings(scene, "A", "B")))

    def test_great_numbers(self):
        most = 10 ** 399 + 9
        scene = read_scene(f"A = area (0, 0) ({most}, 1/{most}) (-1/{most}, {most}); B = rim A;".replace("rim A", (
            f"path ({most}, 1/{most}) (5/{most}, {most}/7)")))
        self.check_accepted(certify_bent(scene, scene, "keeps"), ("bent", scene, scene, "keeps"))
        self.check_accepted(certify_meetings(scene, "A", "B"), ("meetings", scene, "A", "B", meetings(scene, "A", "B")))
        pair = certify_joined(scene, BIG_A, at(0, 0), ((1, most), (1, most)))
        self.check_accepted(pair, ("joined", scene, BIG_A, at(0, 0), ((1, most), (1, most))))


class ByName(CertificateCase):

    def test_all(self):
        self.check_accepted(certify_least(chart=SEAM), certify_least(SEAM)[0])
        self.check_accepted(certify_drawn(chart=CUT), certify_drawn(CUT)[0])
        self.check_accepted(certify_read(text="A"), ("reads not", "A", 1))
        claim, paper = certify_joined(scene=HOME, pick=BIG_A, point=at(1, 1), other=at(2, 2))
        self.assertIs(accepts(claim=claim, paper=paper), True)
        claim, paper = certify_meetings(scene=HOME, name="A", other="B")
        self.assertIs(accepts(paper=paper, claim=claim), True)
        claim, paper = certify_bent(scene=HOME, other=HOME, side="turns")
        self.assertIs(accepts(claim, paper=paper), True)


if __name__ == "__main__":
    unittest.main()
