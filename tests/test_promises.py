"""What the document promises over the whole program, over drawn inputs."""

import random
import unittest
from fractions import Fraction
from itertools import product

import charts
from growing import any_numbers, mirrored, renamed, some_maps
from helpers import number
from test_checker import ARMS, HOME, walked_down
from test_deeds import some_deed
from test_plans import scenes
from bentalike.books import changed, done_again, fresh_book, undone
from bentalike.certificates import (
    certify_bent, certify_drawn, certify_joined, certify_least, certify_meetings, certify_read
)
from bentalike.checker import accepts
from bentalike.codes import code, is_code, map_of, turned_code
from bentalike.console import run
from bentalike.deeds import behind_deed, does_fit, work_of
from bentalike.needless import least, least_map
from bentalike.pictures import picture, read_picture
from bentalike.plans import drawn, is_plan, plan_of
from bentalike.printer import scene_text
from bentalike.reader import read_scene
from bentalike.renamings import alike, is_renaming, renaming
from bentalike.scenes import drawing_in, is_scene, labels_in

SIDES = ("keeps", "turns")


def seen_through(scene, rows):
    """The scene with each point (x, y) led to (a x + b y + c, d x + e y + f) / (g x + h y + i); None if it is none.

    Where the last number is above 0 for all points such a change leads straight lines to such, unbroken, and
    is that of a bending of the whole plane, which keeps sides just if the determinant is above 0.
    """
    def value(told):
        if isinstance(told, str):
            return told
        if len(told) == 2 and isinstance(told[0], tuple) and isinstance(told[0][0], int):
            x, y = [Fraction(*part) for part in told]
            upper, middle, lower = [a * x + b * y + c for a, b, c in rows]
            if lower <= 0:
                raise ZeroDivisionError
            return number(Fraction(upper) / lower), number(Fraction(middle) / lower)
        return tuple(value(part) for part in told)

    try:
        return value(scene)
    except ZeroDivisionError:
        return None


def determinant(rows):
    (a, b, c), (d, e, f), (g, h, i) = rows
    return a * (e * i - f * h) - b * (d * i - f * g) + c * (d * h - e * g)


def told_otherwise(chance, figure):
    """Another figure of the same places, a deeper one."""
    far = ("spot", ((99, 1), (chance.randrange(9), 1)))
    same = [("both", figure, figure), ("either", figure, figure), ("less", figure, far), ("less", ("either", figure,
                                                                                                   far), far),
            ("less", figure, ("less", far, figure)), ("both", figure, ("either", far, figure))]
    if figure[0] in ("spot", "path", "area"):
        same += [("closure", figure), ("either", ("rim", figure), ("inner", figure)), ("either", figure, ("rim",
                                                                                                          figure))]
    if figure[0] in ("path", "area"):
        same += [(figure[0], figure[1][::-1]), ("closure", (figure[0], figure[1][::-1]))]
    if figure[0] == "area":
        same.append(("area", figure[1][1:] + figure[1][:1]))
    if figure[0] in ("closure", "inner"):
        same += [(figure[0], figure), figure]
    return chance.choice(same)


class OneLeastMap(unittest.TestCase):

    def test_in_whatever_order_what_is_needless_is_taken_away(self):
        chance = random.Random(391)
        for scene in [HOME, ARMS] + scenes(392, 60):
            chart, _ = plan_of(scene)
            text = code(least_map(scene))
            lefts = [walked_down(chance, chart)[1] for _ in range(4)]
            self.assertEqual({code(left) for left in lefts} | {code(least(chart))}, {text})
            for left in lefts:
                found = renaming(left, least_map(scene), "keeps")
                self.assertIs(is_renaming(left, least_map(scene), "keeps", found), True)

    def test_of_scenes_with_seams_that_change_nothing(self):
        chance = random.Random(393)
        many = 0
        for scene in scenes(394, 120, 2):
            if scene:
                name, figure = chance.choice(scene)
                other = dict(scene)
                other[name] = told_otherwise(chance, figure)
                other = tuple(sorted(other.items()))
                if is_scene(other):
                    many += 1
                    self.assertEqual(code(least_map(other)), code(least_map(scene)))
        self.assertGreater(many, 60)

    def test_it_hangs_on_places_alone(self):
        chance = random.Random(395)
        for scene in scenes(396, 40, 2):
            other = tuple((name, told_otherwise(chance, figure)) for name, figure in scene)
            if is_scene(other):
                self.assertEqual(alike(scene, other)[0], True)
                self.assertEqual(code(least_map(scene)), code(least_map(other)))


class Alike(unittest.TestCase):

    def test_scenes_bent_so_that_straight_lines_stay_straight(self):
        chance = random.Random(397)
        told = {True: 0, False: 0}
        for scene in [HOME, ARMS] + scenes(398, 150):
            rows = [[chance.randrange(-3, 4) for _ in range(3)] for _ in range(2)] + [
                [Fraction(chance.randrange(-2, 3), 20) for _ in range(2)] + [1]]
            other = seen_through(scene, rows)
            if determinant(rows) == 0 or other is None:
                continue
            kept = determinant(rows) > 0
            told[kept] += 1
            self.assertIs(is_scene(other), True)
            self.assertIs(alike(scene, other)[0 if kept else 1], True)
            text = code(least_map(other))
            self.assertEqual(text, code(least_map(scene)) if kept else turned_code(least_map(scene)))
            self.assertIs(accepts(*certify_bent(scene, other, SIDES[0 if kept else 1])), True)
        self.assertGreater(min(told.values()), 30)

    def test_codes_are_the_same_exactly_if_there_is_a_renaming(self):
        maps = some_maps(399, 30, 5) + [least_map(scene) for scene in scenes(400, 10)]
        for chart, other in product(maps, maps):
            self.assertIs(code(chart) == code(other), renaming(chart, other, "keeps") is not None)
            self.assertIs(code(chart) == turned_code(other), renaming(chart, other, "turns") is not None)

    def test_maps_numbered_anew_and_turned(self):
        chance = random.Random(401)
        for chart in charts.ALL + tuple(some_maps(402, 40, 16)):
            other = renamed(chart, any_numbers(chance, chart))
            self.assertEqual((code(other), turned_code(other)), (code(chart), turned_code(chart)))
            self.assertEqual(code(mirrored(other)), turned_code(chart))
            self.assertIs(is_code(code(chart)), True)
            self.assertEqual(code(map_of(code(chart))), code(chart))


class DrawnAgain(unittest.TestCase):

    def test_each_map_is_drawn(self):
        for chart in charts.ALL + tuple(some_maps(403, 60, 20)):
            if sum(len(chart[row]) for row in (0, 1, 3)) <= 80:
                plan = drawn(chart)
                self.assertIs(is_plan(plan), True)
                self.assertEqual(code(least(plan[0])), code(least(chart)))

    def test_least_maps_of_scenes_are_drawn(self):
        for scene in scenes(404, 60):
            chart = least_map(scene)
            if sum(len(chart[row]) for row in (0, 1, 3)) <= 80:
                self.assertEqual(code(least(drawn(chart)[0])), code(chart))


class Papers(unittest.TestCase):

    def test_they_are_accepted_and_no_claim_that_is_excluded_has_one(self):
        chance = random.Random(405)
        some = scenes(406, 40, 3)
        for scene in some:
            other, side = chance.choice(some[:12]), chance.choice(SIDES)
            points = plan_of(scene)[1] + (((77, 1), (0, 1)),)
            point, goal = chance.choice(points), chance.choice(points)
            pairs = [certify_least(plan_of(scene)[0]), certify_bent(scene, other, side), certify_bent(scene, scene,
                                                                                                      side),
                     certify_meetings(scene, "A", "B"), certify_joined(scene, ("all",), point, goal),
                     certify_joined(scene, ("either", ("rim", ("name", "A")), ("not", ("name", "A"))), points[-1],
                                    points[-1]),
                     certify_read(scene_text(scene)), certify_read(scene_text(scene)[:-3])]
            if sum(len(least_map(scene)[row]) for row in (0, 1, 3)) <= 80:
                pairs.append(certify_drawn(least_map(scene)))
            papers = [paper for _, paper in pairs]
            for claim, paper in pairs:
                self.assertIs(accepts(claim, paper), True)
                self.check_excluded(claim, papers)

    def check_excluded(self, claim, papers):
        """No paper at hand is one for a claim that excludes this one."""
        word, told = claim[0], claim[1:]
        others = {"bent": [("not bent",) + told], "not bent": [("bent",) + told], "joined": [("parted",) + told],
                  "parted": [("joined",) + told], "reads": [("reads not", told[0], place) for place in (0, 1, 9)],
                  "reads not": [("reads", told[0], ())] + [("reads not", told[0], place) for place in range(9)
                                                           if place != told[1]]}.get(word, [])
        if word == "meetings":
            nine = claim[4]
            others = [claim[:4] + (nine[:at] + (not nine[at],) + nine[at + 1:],) for at in range(9)]
        for other in others:
            for paper in papers + [()]:
                self.assertIs(accepts(other, paper), False)


class Texts(unittest.TestCase):

    def test_scenes_are_read_again(self):
        for scene in scenes(407, 150, 5):
            text = scene_text(scene)
            self.assertEqual(read_scene(text), scene)
            self.assertEqual(scene_text(read_scene(text)), text)

    def test_numbers_of_up_to_400_digits(self):
        chance = random.Random(408)
        for scene in scenes(409, 25):
            great = [number(Fraction(chance.randrange(10 ** 399), chance.randrange(1, 10 ** 399))) for _ in range(2)]
            deeds = [("put", "D", (), ("spot", tuple(great)))] + [("shift", "D", ()) + ((1, 1), (-1, 1))]
            for deed in deeds:
                scene = behind_deed(scene, deed) if does_fit(scene, deed) else scene
            if all(len(part) <= 400 for part in scene_text(scene).replace("/", " ").replace(",", " ").split()):
                self.assertEqual(read_scene(scene_text(scene)), scene)

    def test_pictures_are_read_again(self):
        for scene in scenes(410, 60):
            vertices, edges, _ = drawing_in(scene)
            labels = labels_in(scene)
            self.assertEqual(read_picture(picture(scene)), (
                tuple(zip(vertices, labels[0])), tuple(edge + (label,) for edge, label in zip(edges, labels[1]))))


class RowsOfChanges(unittest.TestCase):

    def test_the_code_is_that_of_the_scene(self):
        chance = random.Random(411)
        for scene in scenes(412, 20):
            book = fresh_book(scene)
            for _ in range(12):
                deed = some_deed(chance, book[0][0])
                if does_fit(book[0][0], deed):
                    self.assertIn(work_of(book[0][0], deed), ("none", "turned", "names", "anew"))
                    book = changed(book, deed)
                if chance.random() < 0.4 and book[1]:
                    book = undone(book)
                if chance.random() < 0.3 and book[2]:
                    book = done_again(book)
                for told, text in (book[0],) + book[1] + book[2]:
                    self.assertEqual(code(least_map(told)), text)

    def test_answers_of_a_console_are_those_from_nothing(self):
        asked = ("show", "code", "meet A B", "meet C A", "pieces A", "holes not B", "euler A + C", "label 1 1",
                 "letters -1 -1 4 4 4")
        chance = random.Random(413)
        for scene in scenes(414, 20, 2):
            lines = [line[:-1] for line in scene_text(scene).splitlines()]
            more = ["A = spot (1, 2)", "exchange A B", "lead 1 1 0 1 2 2", "undo", "redo", "strike C", "shift A 1 1",
                    "undo"]
            chance.shuffle(more)
            told = run(tuple(lines + more) + asked)
            shown = told[len(lines) + len(more)]
            fresh = [] if shown == "nothing" else [line[:-1] for line in shown.splitlines()]
            self.assertEqual(run(tuple(fresh) + asked)[len(fresh):], told[len(lines) + len(more):])


if __name__ == "__main__":
    unittest.main()
