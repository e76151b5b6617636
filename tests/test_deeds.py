import random
import unittest
from fractions import Fraction

import places
from helpers import at, failure, number
from test_plans import scenes
from test_reader import path
from bentalike import errors
from bentalike.codes import code, turned_code
from bentalike.deeds import behind_deed, does_fit, work_of
from bentalike.needless import least_map
from bentalike.reader import read_figure, read_scene
from bentalike.scenes import is_scene

NIL, ONE, TWO, HALF = (0, 1), (1, 1), (2, 1), (1, 2)
DOT, FAR = ("spot", at(0, 0)), ("spot", at(5, 5))
HALL = ("area", (at(0, 0), at(4, 0), at(4, 4), at(0, 4)))
ROOM = ("either", ("rim", HALL), ("both", DOT, ("path", (at(1, 1), at(2, 1)))))
HOME = (("B", ROOM), ("C", HALL))
LONG = read_figure(path(12))
SAME = (ONE, NIL, NIL, ONE, NIL, NIL)
WORDS = ("put", "strike", "shift", "point", "exchange", "lead")

# What is no deed, whatever the scene.
NONE_AT_ALL = (
    None, True, 0, "strike", b"strike", [], {}, (), ("strike",), ["strike", "B"], ("Strike", "B"), (b"strike", "B"),
    ("strike", "b"), ("strike", "E"), ("strike", ["B"]), ("strike", "B", ()), ("strike", ("B",)), (("strike", "B"),),
    ("put", "B", (), DOT, ()), ("put", "B", ()), ("put", "B"), ("put", "B", [], DOT), ("put", "B", (1, True), DOT),
    ("put", "B", (True,), DOT), ("put", "B", (0,), DOT), ("put", "B", (3,), DOT), ("put", "B", (-1,), DOT),
    ("put", "B", ("1",), DOT), ("put", "B", 1, DOT), ("put", "B", None, DOT), ("put", "B", (), list(DOT)),
    ("put", "B", (), ("spot", (0, 0))), ("put", "B", (), ("path", (at(0, 0), at(0, 0)))), ("put", "B", (), None),
    ("put", "E", (), DOT), ("put", ("B",), (), DOT), ("put", "B", ((1,),), DOT), ("put", "B", (), "B"),
    ("shift", "B", (), ONE), ("shift", "B", ONE, ONE), ("shift", "B", (), ONE, 1), ("shift", "B", (), (2, 2), ONE),
    ("shift", "B", (), ONE, (True, 1)), ("shift", "B", (), (ONE, ONE)), ("shift", "B", (), ONE, ONE, ONE),
    ("shift", "B", (), [1, 1], ONE), ("shift", "B", (), ONE, (1, 0)), ("shift", "B", (), ONE, (1, -1)),
    ("point", "B", (2, 1), 0), ("point", "B", (2, 1), True, at(1, 1)), ("point", "B", (2, 1), False, at(1, 1)),
    ("point", "B", (2, 1), "0", at(1, 1)), ("point", "B", (2, 1), 0, (1, 1)), ("point", "B", (2, 1), 0, list(at(1, 1))),
    ("point", "B", (2, 1), 0, at(1, 1), 0), ("point", "B", (2, 1), None, at(1, 1)), ("point", "B", 0, at(1, 1)),
    ("exchange", "B", "B"), ("exchange", "B"), ("exchange", "B", "C", "D"), ("exchange", "B", "E"),
    ("exchange", ("B", "C")), ("exchange", "B", ["C"]), ("exchange", "E", "B"), ("exchange", None, "B"),
    ("lead", SAME[:5]), ("lead", SAME + (NIL,)), ("lead",) + SAME, ("lead", list(SAME)), ("lead", SAME, ()),
    ("lead", (ONE, NIL, NIL, 1, NIL, NIL)), ("lead", (ONE, NIL, NIL, (2, 2), NIL, NIL)), ("lead", None), ("lead",),
    ("lead", (ONE, NIL, NIL, (True, 1), NIL, NIL)), ("lead", (ONE, ONE, ONE, ONE, NIL, NIL)),
    ("lead", (NIL, NIL, NIL, NIL, ONE, ONE)), ("lead", (TWO, ONE, (4, 1), TWO, NIL, NIL)),
    ("lead", (HALF, ONE, HALF, ONE, NIL, NIL)), ("lead", (NIL, ONE, NIL, ONE, NIL, NIL)), ("lead", "SAME"),
    ("undo", "B"), ("put", "strike", "B"), ("shift", "B", "C"), ("point", "B"), DOT, HOME,
)


def led(scene, numbers):
    """The scene with all its points led, by Fractions."""
    a, b, c, d, e, f = [Fraction(*told) for told in numbers]

    def value(told):
        if isinstance(told, str):
            return told
        if len(told) == 2 and isinstance(told[0], tuple) and isinstance(told[0][0], int):
            x, y = [Fraction(*part) for part in told]
            return number(a * x + b * y + e), number(c * x + d * y + f)
        return tuple(value(part) for part in told)

    return value(scene)


def parts_of(figure, where=()):
    """The pairs of where and a part, for all parts of a figure."""
    found = [(where, figure)]
    if figure[0] not in ("spot", "path", "area"):
        for at_part in range(1, len(figure)):
            found += parts_of(figure[at_part], where + (at_part,))
    return found


def some_deed(chance, scene, size=4):
    """A deed that may fit or not."""
    name, other = chance.sample("ABCD", 2)
    if scene and chance.random() < 0.8:
        name = chance.choice(scene)[0]
    where = tuple(chance.randrange(1, 3) for _ in range(chance.choice((0, 0, 1, 2, 3))))
    if name in dict(scene) and chance.random() < 0.8:
        where = chance.choice(parts_of(dict(scene)[name]))[0]
    point = places.some_place(chance, size)
    return {
        "put": lambda: ("put", name, where, places.some_figure(chance, chance.randrange(1, 4), size)),
        "strike": lambda: ("strike", name),
        "shift": lambda: ("shift", name, where) + point,
        "point": lambda: ("point", name, where, chance.randrange(3), point),
        "exchange": lambda: ("exchange", name, other),
        "lead": lambda: ("lead", tuple(number(chance.randrange(-2, 3)) for _ in range(6))),
    }[chance.choice(WORDS)]()


class DeedCase(unittest.TestCase):

    def check_fits(self, scene, deed, behind, work):
        with self.subTest(deed):
            self.assertIs(does_fit(scene, deed), True)
            self.assertEqual(behind_deed(scene, deed), behind)
            self.assertEqual(work_of(scene, deed), work)

    def check_none(self, scene, *deeds):
        for deed in deeds:
            with self.subTest(deed):
                self.assertIs(does_fit(scene, deed), False)
                for function in (behind_deed, work_of):
                    error = failure(function, scene, deed)
                    self.assertIs(error.__class__, errors.InvalidDeed)
                    self.assertIs(error.given, deed)


class Put(DeedCase):

    def test_at_each_place(self):
        stick = ROOM[2][2]
        for where, figure in (((), FAR), ((1,), ("either", FAR, ROOM[2])),
                              ((1, 1), ("either", ("rim", FAR), ROOM[2])), ((2,), ("either", ROOM[1], FAR)),
                              ((2, 1), ("either", ROOM[1], ("both", FAR, stick))),
                              ((2, 2), ("either", ROOM[1], ("both", DOT, FAR)))):
            self.check_fits(HOME, ("put", "B", where, FAR), (("B", figure), ("C", HALL)), "anew")

    def test_a_name_that_is_not_there(self):
        self.check_fits(HOME, ("put", "A", (), FAR), (("A", FAR),) + HOME, "anew")
        self.check_fits(HOME, ("put", "D", (), FAR), HOME + (("D", FAR),), "anew")
        self.check_fits((), ("put", "C", (), DOT), (("C", DOT),), "anew")
        self.check_none(HOME, ("put", "A", (1,), FAR), ("put", "D", (2, 1), FAR))
        self.check_none((), ("put", "A", (1,), DOT))

    def test_no_such_part(self):
        self.check_none(HOME, *[("put", "B", where, FAR) for where in (
            (1, 2), (1, 1, 1), (1, 1, 2), (2, 1, 1), (2, 2, 1), (2, 2, 2), (1,) * 40, (2,) * 40)])
        self.check_none(HOME, ("put", "C", (1,), FAR), ("put", "C", (2,), FAR), ("shift", "C", (1,), ONE, ONE))

    def test_the_same(self):
        for where, part in parts_of(ROOM):
            self.check_fits(HOME, ("put", "B", where, part), HOME, "none")

    def test_what_becomes_too_deep(self):
        deep = ("rim", ("rim", ("rim", ("rim", DOT))))
        scene = (("A", ("either", ("rim", DOT), DOT)),)
        self.check_fits(scene, ("put", "A", (1,), deep), (("A", ("either", deep, DOT)),), "anew")
        self.check_none(scene, ("put", "A", (1, 1), deep), ("put", "A", (2,), ("rim", ("rim", deep))))
        self.check_fits(scene, ("put", "A", (), ("rim", deep)), (("A", ("rim", deep)),), "anew")
        self.check_none(scene, ("put", "A", (), ("rim", ("rim", ("rim", deep)))))

    def test_too_many_segments(self):
        scene = (("A", LONG), ("B", ("either", LONG, DOT)))
        short = [("path", tuple(at(k, k * k) for k in range(many))) for many in (3, 4)]
        self.check_fits(scene, ("put", "B", (2,), short[0]), (("A", LONG), ("B", ("either", LONG, short[0]))), "anew")
        self.check_none(scene, ("put", "B", (2,), short[1]), ("put", "C", (), short[1]))
        self.check_fits(scene, ("put", "B", (), LONG), (("A", LONG), ("B", LONG)), "anew")
        self.check_fits(scene, ("put", "B", (1,), short[1]), (("A", LONG), ("B", ("either", short[1], DOT))), "anew")
        self.check_none(scene, ("put", "D", (), ("either", LONG, ("either", LONG, LONG))))


class Others(DeedCase):

    def test_strike(self):
        self.check_fits(HOME, ("strike", "B"), HOME[1:], "anew")
        self.check_fits(HOME, ("strike", "C"), HOME[:1], "anew")
        self.check_none(HOME, ("strike", "A"), ("strike", "D"))
        self.check_none((), *[("strike", name) for name in "ABCD"])

    def test_shift(self):
        moved = ("area", tuple(at(x, y) for x, y in ((3, Fraction(1, 2)), (7, Fraction(1, 2)), (7, Fraction(9, 2)),
                                                     (3, Fraction(9, 2)))))
        self.check_fits(HOME, ("shift", "C", (), (3, 1), HALF), (HOME[0], ("C", moved)), "anew")
        self.check_fits(HOME, ("shift", "B", (1, 1), (3, 1), HALF),
                        (("B", ("either", ("rim", moved), ROOM[2])), HOME[1]), "anew")
        self.check_fits(HOME, ("shift", "B", (2,), (-1, 1), NIL), (
            ("B", ("either", ROOM[1], ("both", ("spot", at(-1, 0)), ("path", (at(0, 1), at(1, 1)))))), HOME[1]), "anew")
        self.check_fits(HOME, ("shift", "B", (), NIL, ONE), (("B", (
            "either", ("rim", ("area", tuple(at(x, y + 1) for x, y in ((0, 0), (4, 0), (4, 4), (0, 4))))),
            ("both", ("spot", at(0, 1)), ("path", (at(1, 2), at(2, 2)))))), HOME[1]), "anew")

    def test_shift_by_nothing(self):
        for where, _ in parts_of(ROOM):
            self.check_fits(HOME, ("shift", "B", where, NIL, NIL), HOME, "none")

    def test_shift_of_what_is_not_there(self):
        self.check_none(HOME, ("shift", "A", (), ONE, ONE), ("shift", "B", (1, 2), ONE, ONE),
                        ("shift", "B", (2, 2, 1), NIL, NIL), ("shift", "D", (), NIL, NIL))

    def test_point(self):
        self.check_fits(HOME, ("point", "B", (2, 1), 0, at(7, 7)), (
            ("B", ("either", ROOM[1], ("both", ("spot", at(7, 7)), ROOM[2][2]))), HOME[1]), "anew")
        self.check_fits(HOME, ("point", "B", (2, 2), 1, at(7, 7)), (
            ("B", ("either", ROOM[1], ("both", DOT, ("path", (at(1, 1), at(7, 7)))))), HOME[1]), "anew")
        for index in range(4):
            corners = HALL[1][:index] + (at(9, -9),) + HALL[1][index + 1:]
            self.check_fits(HOME, ("point", "C", (), index, at(9, -9)), (HOME[0], ("C", ("area", corners))), "anew")
            self.check_fits(HOME, ("point", "C", (), index, HALL[1][index]), HOME, "none")

    def test_point_for_an_index_that_is_not_there(self):
        self.check_none(HOME, *[("point", "B", (2, 1), index, at(7, 7)) for index in (1, -1, 2, 10 ** 30)])
        self.check_none(HOME, *[("point", "B", (2, 2), index, at(7, 7)) for index in (2, -1, -2, 3)])
        self.check_none(HOME, *[("point", "C", (), index, at(7, 7)) for index in (4, -1, -4, 12)])

    def test_point_of_what_is_no_spot_path_area(self):
        self.check_none(HOME, *[("point", "B", where, 0, at(7, 7)) for where in ((), (1,), (2,))])
        self.check_none(HOME, ("point", "A", (), 0, at(7, 7)), ("point", "B", (1, 2), 0, at(7, 7)))
        for figure in (("rim", DOT), ("closure", ("rim", DOT)), ("both", DOT, FAR), ("rim", HALL)):
            self.check_none((("A", figure),), *[("point", "A", (), index, at(7, 7)) for index in range(4)])

    def test_point_that_makes_two_alike(self):
        self.check_none(HOME, ("point", "B", (2, 2), 0, at(2, 1)), ("point", "B", (2, 2), 1, at(1, 1)),
                        ("point", "C", (), 0, at(0, 4)), ("point", "C", (), 3, at(0, 0)),
                        ("point", "C", (), 1, at(0, 0)), ("point", "C", (), 1, at(4, 4)))
        self.check_fits(HOME, ("point", "C", (), 0, at(4, 4)), (
            HOME[0], ("C", ("area", (at(4, 4),) + HALL[1][1:]))), "anew")

    def test_exchange(self):
        self.check_fits(HOME, ("exchange", "B", "C"), (("B", HALL), ("C", ROOM)), "names")
        self.check_fits(HOME, ("exchange", "C", "B"), (("B", HALL), ("C", ROOM)), "names")
        self.check_fits(HOME, ("exchange", "B", "D"), (("C", HALL), ("D", ROOM)), "names")
        self.check_fits(HOME, ("exchange", "A", "C"), (("A", HALL), ("B", ROOM)), "names")
        self.check_none(HOME, ("exchange", "A", "D"), ("exchange", "D", "A"))
        self.check_none((), ("exchange", "A", "B"))
        twins = (("A", DOT), ("C", DOT))
        self.check_fits(twins, ("exchange", "A", "C"), twins, "none")
        self.check_fits(twins, ("exchange", "A", "B"), (("B", DOT), ("C", DOT)), "names")

    def test_lead(self):
        for numbers, work in (((TWO, NIL, NIL, ONE, NIL, NIL), "none"), ((NIL, ONE, ONE, NIL, NIL, NIL), "turned"),
                              ((NIL, (-1, 1), ONE, NIL, NIL, NIL), "none"), ((ONE, NIL, NIL, ONE, HALF, TWO), "none"),
                              (((-1, 1), NIL, NIL, ONE, NIL, NIL), "turned"), ((ONE, HALF, NIL, ONE, NIL, NIL), "none"),
                              ((HALF, TWO, ONE, (1, 3), (7, 1), (-1, 9)), "turned"), (SAME, "none")):
            self.check_fits(HOME, ("lead", numbers), led(HOME, numbers), work)

    def test_leads_by_which_nothing_moves(self):
        on_a_line = (("A", ("path", (at(0, 0), at(5, 0)))), ("B", ("spot", at(2, 0))))
        self.check_fits(on_a_line, ("lead", (ONE, NIL, NIL, (-1, 1), NIL, NIL)), on_a_line, "none")
        self.check_fits(on_a_line, ("lead", ((-1, 1), NIL, NIL, ONE, NIL, NIL)), led(
            on_a_line, ((-1, 1), NIL, NIL, ONE, NIL, NIL)), "turned")
        self.check_fits((("C", DOT),), ("lead", (NIL, ONE, ONE, NIL, NIL, NIL)), (("C", DOT),), "none")
        self.check_fits((), ("lead", (NIL, ONE, ONE, NIL, NIL, NIL)), (), "none")
        self.check_none((), ("lead", (ONE, ONE, ONE, ONE, NIL, NIL)))

    def test_what_is_no_deed(self):
        self.check_none(HOME, *NONE_AT_ALL)
        self.check_none((), *NONE_AT_ALL)

    def test_deeds_bent_at_any_place(self):
        for deed in (("put", "B", (2,), FAR), ("strike", "B"), ("shift", "B", (1,), ONE, HALF),
                     ("point", "B", (2, 2), 1, at(3, 3)), ("exchange", "B", "C"), ("lead", SAME)):
            self.assertIs(does_fit(HOME, deed), True)
            self.check_none(HOME, list(deed), deed + (None,), deed[:-1], deed + deed)
            for place in range(len(deed)):
                for other in (None, True, -1, "", "E", b"B", [], {}, (None,), [deed[place]], (deed[place],)):
                    if not (place == 2 and other == ()):
                        self.check_none(HOME, deed[:place] + (other,) + deed[place + 1:])


class Random(DeedCase):

    def test_what_comes_is_a_scene_and_works_tell_its_code(self):
        chance = random.Random(321)
        told = {}
        for scene in scenes(322, 150):
            before = least_map(scene)
            for _ in range(8):
                deed = some_deed(chance, scene)
                if does_fit(scene, deed):
                    behind, work = behind_deed(scene, deed), work_of(scene, deed)
                    self.assertIs(is_scene(behind), True)
                    self.check_work(deed, work, before, least_map(behind))
                    told[deed[0], work] = told.get((deed[0], work), 0) + 1
        self.assertLessEqual({("put", "anew"), ("strike", "anew"), ("shift", "none"), ("shift", "anew"),
                              ("point", "none"), ("point", "anew"), ("exchange", "names"), ("lead", "turned"),
                              ("lead", "none")}, set(told))

    def check_work(self, deed, work, before, behind):
        if work == "none":
            self.assertEqual(code(behind), code(before))
        elif work == "turned":
            self.assertEqual(code(behind), turned_code(before))
        elif work == "names":
            names = {deed[1]: deed[2], deed[2]: deed[1]}

            def label(told):
                return tuple(sorted(names.get(name, name) for name in told))

            specials, arcs, turns, rings, faces = before
            renamed = (tuple(label(told) for told in specials), tuple(arc[:2] + (label(arc[2]),) for arc in arcs),
                       turns, tuple((label(ring[0]),) + ring[1:] for ring in rings),
                       tuple((label(face[0]),) + face[1:] for face in faces))
            self.assertEqual(code(behind), code(renamed))

    def test_leads_by_fractions(self):
        chance = random.Random(323)
        for scene in scenes(324, 60):
            numbers = tuple(number(Fraction(chance.randrange(-4, 5), chance.randrange(1, 4))) for _ in range(6))
            a, b, c, d = [Fraction(*told) for told in numbers[:4]]
            if a * d == b * c:
                self.check_none(scene, ("lead", numbers))
            else:
                work = "none" if a * d > b * c or led(scene, numbers) == scene else "turned"
                self.check_fits(scene, ("lead", numbers), led(scene, numbers), work)

    def test_shifts_and_points_that_are_taken_back(self):
        chance = random.Random(325)
        for scene in scenes(326, 60):
            for name, figure in scene:
                where, part = chance.choice(parts_of(figure))
                x, y = number(Fraction(chance.randrange(-9, 9), 7)), number(chance.randrange(-9, 9))
                there = behind_deed(scene, ("shift", name, where, x, y))
                self.assertEqual(behind_deed(there, ("shift", name, where, (-x[0], x[1]), (-y[0], y[1]))), scene)
                other = behind_deed(scene, ("put", name, where, FAR))
                self.assertEqual(behind_deed(other, ("put", name, where, part)), scene)

    def test_great_numbers(self):
        great = 10 ** 399 + 7
        scene = read_scene("A = area (0, 0) (1, 0) (0, 1); B = spot (1/3, 1/3);")
        there = behind_deed(scene, ("lead", ((great, 1), ONE, NIL, (1, great), (1, great), (great, 3))))
        self.assertEqual(work_of(scene, ("lead", ((-great, 1), ONE, NIL, (1, great), NIL, NIL))), "turned")
        self.assertIs(is_scene(there), True)
        self.assertEqual(code(least_map(there)), code(least_map(scene)))


if __name__ == "__main__":
    unittest.main()
