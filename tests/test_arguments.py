"""Which error each function raises for each of its arguments, in which order, and with what."""

import inspect
import unittest
from itertools import combinations

from bentalike import errors
from bentalike.asked import are_joined, euler, holes, meetings, pieces, word_of
from bentalike.books import changed, done_again, fresh_book, is_book, undone
from bentalike.certificates import (
    certify_bent, certify_drawn, certify_joined, certify_least, certify_meetings, certify_read
)
from bentalike.checker import accepts
from bentalike.codes import code, is_code, map_of, turned_code
from bentalike.console import run
from bentalike.cuts import edges_of, turns_of, vertices_of, walk_area, walks_of
from bentalike.deeds import behind_deed, does_fit, work_of
from bentalike.drawings import cell_at, does_lie_at, drawing_of, how_many, point_in
from bentalike.figures import cells_of, is_figure, is_in, segments_of, spots_of
from bentalike.maps import dart_behind, face_around, is_map, left_of, parts_in, turned
from bentalike.needless import is_least, is_needless_arc, kind_of, least, least_map, steps, taken
from bentalike.picks import cells_in, does_rim, is_pick, map_cells
from bentalike.pictures import letters, picture, read_picture
from bentalike.plans import drawn, is_plan, plan_of
from bentalike.points import common, in_turn, is_on, is_point, turn_of
from bentalike.printer import figure_text, pick_text, scene_text
from bentalike.questions import (
    euler_in, holes_in, is_bounded_in, is_closed_in, is_open_in, meetings_in, nesting_in, pieces_in, surrounds, word_in
)
from bentalike.reader import read_figure, read_pick, read_scene
from bentalike.renamings import alike, is_renaming, many_renamings, renaming
from bentalike.scenes import drawing_in, is_scene, label_at, labels_in
from charts import A, CUT, EYE, RINGS, STICK
from helpers import SQUARE, at, failure, line

GREAT = 10 ** 500
POINT = at(1, 2)
SEGMENT = line(0, 0, 1, 2)


# Where the document's interface lists its functions.
INTERFACE = {
    "points": "is_point turn_of is_on common in_turn",
    "cuts": "vertices_of edges_of turns_of walks_of walk_area",
    "drawings": "drawing_of how_many cell_at does_lie_at point_in",
    "figures": "is_figure segments_of spots_of is_in cells_of",
    "scenes": "is_scene label_at drawing_in labels_in",
    "maps": "is_map dart_behind left_of turned parts_in face_around",
    "needless": "kind_of is_needless_arc steps taken is_least least least_map",
    "codes": "code turned_code is_code map_of",
    "renamings": "is_renaming renaming many_renamings alike",
    "plans": "plan_of is_plan drawn",
    "picks": "is_pick map_cells does_rim cells_in",
    "questions": "meetings_in word_in pieces_in holes_in surrounds nesting_in euler_in is_open_in is_closed_in "
                 "is_bounded_in",
    "asked": "meetings word_of pieces holes euler are_joined",
    "reader": "read_figure read_scene read_pick",
    "printer": "figure_text scene_text pick_text",
    "deeds": "does_fit behind_deed work_of",
    "books": "is_book fresh_book changed undone done_again",
    "pictures": "letters picture read_picture",
    "console": "run",
    "checker": "accepts",
    "certificates": "certify_least certify_bent certify_drawn certify_meetings certify_joined certify_read",
}


class Anything:
    """A value of a kind that the package does not know."""


OTHER_KINDS = (None, True, False, 0, 1, -1, GREAT, "", "A", b"", b"ab", [], {}, set(), {1}, Anything(), len, (),
               (None,), (0, 1), ((),), ("spot",), ((0, 1), None), ([0, 1], [0, 1]), ((1, [2]), (3, {4: 5})))

WRONG_POINTS = OTHER_KINDS + (
    list(POINT), ([1, 1], (2, 1)), ((1, 1), [2, 1]), (1, 2), ((1, 1),), POINT + ((0, 1),),
    ((True, 1), (2, 1)), ((1, True), (2, 1)), ((1, 1), (2, True)), ((1, 1), (False, 1)),
    ((2, 2), (0, 1)), ((0, 1), (4, 6)), ((0, 2), (0, 1)), ((1, 0), (0, 1)), ((0, 1), (1, -1)), ((0, 1), (0, 0)),
    (("1", 1), (2, 1)), ((1, 1), (2, None)), ((1, 1, 1), (2, 1)), ((1, 1), (2,)),
)

WRONG_SEGMENTS = OTHER_KINDS + (
    list(SEGMENT), (POINT, POINT), (POINT,), (POINT, at(0, 0), at(1, 1)), POINT, (POINT, list(at(0, 0))),
    (POINT, ((2, 2), (0, 1))), (((0, 1), (0, 2)), POINT), (POINT, ((True, 1), (0, 1))), (POINT, None),
    (((GREAT, 1), (0, 1)), ((GREAT, 1), (0, 1))),
)


def given_rows(error, values):
    """Of wrong values the triples (VALUE, ERROR, ATTRIBUTES), `given` being the whole value."""
    return [(value, error, {"given": value}) for value in values]


def wrong_rows(error, good, wrong):
    """Wrong rows of up to 24 that are like good: what is no tuple, too many, wrong in some places."""
    rows = [(value, error, {"index": None}) for value in OTHER_KINDS if not isinstance(value, tuple)]
    rows += [([good], error, {"index": None}), ((good,) * 25, error, {"index": None}),
             ((wrong[0],) * 25, error, {"index": None})]
    for value in wrong:
        rows += [((value,), error, {"index": 0}), ((good, value), error, {"index": 1}),
                 ((value, good, value), error, {"index": 0})]
    rows += [((good,) * 23 + (wrong[0],), error, {"index": 23}),
             ((good,) * 7 + (wrong[0],) * 5, error, {"index": 7})]
    return rows


FIGURE = ("less", ("area", (at(0, 0), at(2, 0), at(2, 2))), ("spot", at(1, 1)))
LONG = "path", tuple(at(k, k * k) for k in range(12))
WIDE = ("either", LONG, ("either", LONG, ("path", (at(0, 0), at(1, 0), at(0, 1), at(0, 0)))))
DEEP = ("rim", ("rim", ("rim", ("rim", ("rim", FIGURE)))))
SCENE = (("A", FIGURE), ("C", ("spot", at(1, 1))))

WRONG_FIGURES = OTHER_KINDS + (
    list(FIGURE), ("spot", (1, 1)), ("spot", list(POINT)), ("path", (POINT,)), ("path", (POINT, POINT)),
    ("area", (POINT, at(0, 0))), ("area", (POINT, at(0, 0), POINT)), ("path", [POINT, at(0, 0)]), ("line", POINT),
    ("both", FIGURE), ("rim", FIGURE, FIGURE), ("rim", list(FIGURE)), DEEP, ("both", DEEP, FIGURE), SCENE,
    ("spot", ((True, 1), (0, 1))), ("both", WIDE, ("spot", None)), ("rim", ("rim", ("rim", WIDE))) + ((),),
)

WRONG_SCENES = tuple(value for value in OTHER_KINDS if value != ()) + (
    list(SCENE), SCENE[::-1], SCENE + SCENE[1:], (("A", FIGURE), ("A", FIGURE)), (("E", FIGURE),), (["A", FIGURE],),
    (("A", None),), (("A", FIGURE, FIGURE),), (("A", DEEP),), FIGURE, ("A", FIGURE), (("B", WIDE), ("A", WIDE)),
    (("A", WIDE), None), ((True, FIGURE),),
)

WRONG_CELLS = OTHER_KINDS + (
    ("vertex", -1), ("vertex", 5), ("edge", 4), ("edge", -1), ("face", 2), ("face", -1), ("face", True),
    ("face", False), ("vertex", GREAT), ["face", 0], ("face", 0, 0), ("face",), ("face", "0"), ("face", None),
    ("special", 0), (0, "face"), ("Face", 0), (b"face", 0), (["face"], 0), ("face", (0,)),
)

WRONG_MAPS = OTHER_KINDS + (
    list(CUT), CUT[:4], CUT + ((),), CUT[:2] + (((0, 2, 4), (1, 3, 5)),) + CUT[3:], CUT[:4] + (CUT[4][:2],),
    CUT[:4] + (list(CUT[4]),), (("A", "B"),) + CUT[1:], CUT[:3] + ((("A",), 1, 1),) + CUT[4:],
    CUT[:2] + (((False, 4, 2), (True, 3, 5)),) + CUT[3:], FIGURE, SCENE,
)
WRONG_PICKS = OTHER_KINDS + (
    ["all"], ("all", "A"), ("name", "E"), ("name",), ("name", ["A"]), ("name", True), ("name", ("A",)), "all", "name A",
    ("not",), ("not", "A"), ("rim", ["all"]), ("both", ("all",)), ("both", ("all",), ("all",), ("all",)),
    ("rim", ("rim", ("rim", ("rim", ("rim", ("rim", ("all",))))))), ("either", ("all",), ["all"]), (True,),
    ("less", ("all",), None), FIGURE, ("rim", FIGURE),
)
WRONG_CODES = OTHER_KINDS[:6] + (b"[-]", ["[-]"], ("[-]",), {}, Anything(), "[-", "[A]", "[-.B.A]", "[-oA]", "[-]]",
                                 "code", CUT)
WRONG_STEPS = OTHER_KINDS + (
    ("arc", 0), ("arc", 2), ("arc", -2), ("arc", True), ["arc", 1], ("arc", 1, 1), ("arc",), ("arc", "1"), ("pass", 0),
    ("spot", 0), ("ring", 0), ("Arc", 1), (b"arc", 1), (("arc", 1),), ("arc", GREAT), ("arc", [1]), "arc",
)
SEAM = ((A, A), ((0, 1, A), (0, 1, A), (0, 1, A)), CUT[2], (), CUT[4])
STATE = (SCENE, code(least_map(SCENE)))
BOOK = (STATE, (STATE,), (STATE, STATE))
WRONG_DEEDS = OTHER_KINDS + (
    ["strike", "A"], ("strike", "B"), ("strike", "E"), ("strike", ["A"]), ("put", "A", [], FIGURE),
    ("put", "A", (3,), FIGURE), ("put", "A", (True,), FIGURE), ("put", "B", (1,), FIGURE), ("put", "A", (),
                                                                                            list(FIGURE)),
    ("put", "A", (), WIDE), ("put", "A", (), DEEP), ("shift", "A", (), 1, (0, 1)), ("shift", "A", (), (1, 1), (2, 2)),
    ("point", "A", (2,), 1, POINT), ("point", "A", (2,), True, POINT), ("point", "A", (1,), 0, at(2, 0)),
    ("exchange", "A", "A"), ("exchange", "B", "D"), ("lead", ((1, 1),) * 6), ("lead", [(1, 1)] * 6), STATE, BOOK,
)
WRONG_BOOKS = OTHER_KINDS + (
    list(BOOK), BOOK[:2], BOOK + ((),), STATE, SCENE, (STATE, [STATE], ()), (STATE, (STATE,) * 21, ()),
    (STATE, (), (STATE,) * 21), ((SCENE, "[-]"), (), ()), (list(STATE), (), ()), (STATE, ((SCENE, None),), ()),
    (STATE, (), (SCENE,)), ((SCENE[::-1], STATE[1]), (), ()),
)
NO_TEXTS = tuple(value for value in OTHER_KINDS if not isinstance(value, str)) + (["A"], ("A", "B"), (("A",),), SCENE)
NO_LINES = tuple(value for value in OTHER_KINDS if not isinstance(value, tuple)) + (["undo"], ("undo",) * 201)
HIGH = at(3, 4)
NO_INDEXES = (-1, -2, GREAT, True, False, None, "0", b"", (0,), [0], {}, Anything())

WRONG = {
    "figure": given_rows(errors.InvalidFigure, WRONG_FIGURES) + [
        (WIDE, errors.TooMany, {"given": 25}), (("both", WIDE, WIDE), errors.TooMany, {"given": 50})],
    "scene": given_rows(errors.InvalidScene, WRONG_SCENES) + [
        ((("B", WIDE),), errors.TooMany, {"given": 25}),
        ((("A", LONG), ("B", LONG), ("D", FIGURE)), errors.TooMany, {"given": 25})],
    "cell": given_rows(errors.InvalidCell, WRONG_CELLS),
    "map": given_rows(errors.InvalidMap, WRONG_MAPS),
    "dart": given_rows(errors.InvalidDart, NO_INDEXES + (6, 7)),
    "face": given_rows(errors.InvalidFace, NO_INDEXES + (3, 4)),
    "part": given_rows(errors.InvalidPart, tuple(value for value in WRONG_CELLS if value != ("special", 0)) + (
        ("special", 2), ("special", -1), ("special", False), ("ring", 1), ("ring", False), ("ring", -1), ("Ring", 0))),
    "point": given_rows(errors.InvalidPoint, WRONG_POINTS),
    "segment": given_rows(errors.InvalidSegment, WRONG_SEGMENTS),
    "points": wrong_rows(errors.InvalidPoints, POINT, WRONG_POINTS),
    "segments": wrong_rows(errors.InvalidSegments, SEGMENT, WRONG_SEGMENTS),
    "special": given_rows(errors.InvalidSpecial, NO_INDEXES + (2, 3)),
    "arc": given_rows(errors.InvalidDart, NO_INDEXES + (3, 5)),
    "step": given_rows(errors.InvalidStep, WRONG_STEPS),
    "side": given_rows(errors.InvalidSide, WRONG_PICKS + ("keep", "Turns", b"keeps", ["turns"])),
    "code": given_rows(errors.InvalidCode, WRONG_CODES),
    "pick": given_rows(errors.InvalidPick, WRONG_PICKS),
    "name": given_rows(errors.InvalidName, tuple(value for value in OTHER_KINDS if value != "A") + (
        "E", "a", "AB", ("A",), ["A"], b"A", ("name", "A"))),
    "map cell": given_rows(errors.InvalidCell, tuple(value for value in WRONG_CELLS if value != ("special", 0)) + (
        ("special", True), ("special", 2), ("arc", 1), ("ring", 0), ("face", 1), ("arc", -1), ["arc", 0])),
    "piece": given_rows(errors.InvalidIndex, NO_INDEXES + (2, 3)),
    "deed": given_rows(errors.InvalidDeed, WRONG_DEEDS),
    "book": given_rows(errors.InvalidBook, WRONG_BOOKS),
    "text": [(value, errors.BadText, {"spot": None}) for value in NO_TEXTS],
    "high": given_rows(errors.InvalidPoint, WRONG_POINTS + (
        POINT, at(1, 3), at(2, 2), at(0, 3), at(2, 1), at(-5, -5), at(1, 2), ((10 ** 390, 1), (2, 1)))),
    "window": given_rows(errors.InvalidWindow, tuple(value for value in NO_INDEXES if value != 1) + (
        0, 25, 26, -24, "3", (3,), [3], GREAT)),
    "lines": [(value, errors.InvalidLines, {"index": None}) for value in NO_LINES] + [
        ((value,), errors.InvalidLines, {"index": 0}) for value in NO_TEXTS] + [
        (("undo", "") + (value, "A", value), errors.InvalidLines, {"index": 2}) for value in NO_TEXTS] + [
        (("",) * 199 + (None,), errors.InvalidLines, {"index": 199})],
    "least": given_rows(errors.InvalidMap, WRONG_MAPS + (SEAM,)),
    "walk": given_rows(errors.InvalidIndex, (-1, -2, 2, 3, GREAT, True, False, None, "0", b"", (0,), [0], Anything())),
}
LONE = (at(1, 1),)
PICK = ("less", ("closure", ("name", "A")), ("name", "B"))

# For each function what may be passed, in the order of its signature: (parameter, kind, a value of it).
CALLS = (
    (turn_of, (("point", "point", at(0, 0)), ("other", "point", at(1, 0)), ("third", "point", at(1, 1)))),
    (is_on, (("segment", "segment", SEGMENT), ("point", "point", POINT))),
    (common, (("segment", "segment", SEGMENT), ("other_segment", "segment", line(0, 2, 1, 0)))),
    (in_turn, (("point", "point", at(0, 0)), ("points", "points", (POINT, at(1, 0))))),
    (vertices_of, (("segments", "segments", SQUARE), ("points", "points", LONE))),
    (edges_of, (("segments", "segments", SQUARE), ("points", "points", LONE))),
    (turns_of, (("segments", "segments", SQUARE), ("points", "points", LONE))),
    (walks_of, (("segments", "segments", SQUARE), ("points", "points", LONE))),
    (walk_area, (("segments", "segments", SQUARE), ("points", "points", LONE), ("index", "walk", 1))),
    (drawing_of, (("segments", "segments", SQUARE), ("points", "points", LONE))),
    (how_many, (("segments", "segments", SQUARE), ("points", "points", LONE))),
    (cell_at, (("segments", "segments", SQUARE), ("points", "points", LONE), ("point", "point", POINT))),
    (does_lie_at, (("segments", "segments", SQUARE), ("points", "points", LONE), ("cell", "cell", ("edge", 3)),
                   ("other", "cell", ("face", 1)))),
    (point_in, (("segments", "segments", SQUARE), ("points", "points", LONE), ("cell", "cell", ("vertex", 4)))),
    (segments_of, (("figure", "figure", FIGURE),)),
    (spots_of, (("figure", "figure", FIGURE),)),
    (is_in, (("figure", "figure", FIGURE), ("point", "point", POINT))),
    (cells_of, (("figure", "figure", FIGURE), ("segments", "segments", SQUARE), ("points", "points", LONE))),
    (label_at, (("scene", "scene", SCENE), ("point", "point", POINT))),
    (drawing_in, (("scene", "scene", SCENE),)),
    (labels_in, (("scene", "scene", SCENE),)),
    (dart_behind, (("chart", "map", CUT), ("dart", "dart", 5))),
    (left_of, (("chart", "map", CUT), ("dart", "dart", 0))),
    (turned, (("chart", "map", CUT),)),
    (parts_in, (("chart", "map", CUT), ("face", "face", 2))),
    (face_around, (("chart", "map", EYE), ("part", "part", ("ring", 0)))),
    (kind_of, (("chart", "map", CUT), ("special", "special", 1))),
    (is_needless_arc, (("chart", "map", CUT), ("arc", "arc", 2))),
    (steps, (("chart", "map", SEAM),)),
    (taken, (("chart", "map", SEAM), ("step", "step", ("arc", 1)))),
    (is_least, (("chart", "map", SEAM),)),
    (least, (("chart", "map", SEAM),)),
    (least_map, (("scene", "scene", SCENE),)),
    (code, (("chart", "map", CUT),)),
    (turned_code, (("chart", "map", CUT),)),
    (map_of, (("code", "code", "[-.AoA[-.B]]"),)),
    (renaming, (("chart", "map", CUT), ("other", "map", SEAM), ("side", "side", "keeps"))),
    (many_renamings, (("chart", "map", CUT), ("other", "map", CUT), ("side", "side", "turns"))),
    (alike, (("scene", "scene", SCENE), ("other", "scene", ()))),
    (plan_of, (("scene", "scene", SCENE),)),
    (drawn, (("chart", "map", CUT),)),
    (map_cells, (("chart", "map", CUT),)),
    (does_rim, (("chart", "map", STICK), ("cell", "map cell", ("special", 1)), ("other", "map cell", ("face", 0)))),
    (cells_in, (("chart", "map", CUT), ("pick", "pick", PICK))),
    (meetings_in, (("chart", "map", CUT), ("name", "name", "A"), ("other", "name", "D"))),
    (word_in, (("chart", "map", CUT), ("name", "name", "B"), ("other", "name", "B"))),
    (pieces_in, (("chart", "map", CUT), ("pick", "pick", PICK))),
    (holes_in, (("chart", "map", CUT), ("pick", "pick", PICK))),
    (surrounds, (("chart", "map", RINGS), ("pick", "pick", ("name", "A")), ("index", "piece", 0),
                 ("other", "piece", 1))),
    (nesting_in, (("chart", "map", RINGS), ("pick", "pick", PICK))),
    (euler_in, (("chart", "map", RINGS), ("pick", "pick", PICK))),
    (is_open_in, (("chart", "map", CUT), ("pick", "pick", PICK))),
    (is_closed_in, (("chart", "map", CUT), ("pick", "pick", PICK))),
    (is_bounded_in, (("chart", "map", CUT), ("pick", "pick", PICK))),
    (meetings, (("scene", "scene", SCENE), ("name", "name", "A"), ("other", "name", "C"))),
    (word_of, (("scene", "scene", SCENE), ("name", "name", "D"), ("other", "name", "C"))),
    (pieces, (("scene", "scene", SCENE), ("pick", "pick", PICK))),
    (holes, (("scene", "scene", SCENE), ("pick", "pick", PICK))),
    (euler, (("scene", "scene", SCENE), ("pick", "pick", PICK))),
    (are_joined, (("scene", "scene", SCENE), ("pick", "pick", ("all",)), ("point", "point", POINT),
                  ("other", "point", at(5, 5)))),
)
CALLS += (
    (read_figure, (("text", "text", "spot (1, 2)"),)),
    (read_scene, (("text", "text", "A = spot (1, 2);"),)),
    (read_pick, (("text", "text", "A"),)),
    (figure_text, (("figure", "figure", FIGURE),)),
    (scene_text, (("scene", "scene", SCENE),)),
    (pick_text, (("pick", "pick", PICK),)),
    (behind_deed, (("scene", "scene", SCENE), ("deed", "deed", ("strike", "A")))),
    (work_of, (("scene", "scene", SCENE), ("deed", "deed", ("exchange", "C", "A")))),
    (fresh_book, (("scene", "scene", SCENE),)),
    (changed, (("book", "book", BOOK), ("deed", "deed", ("put", "D", (), FIGURE)))),
    (undone, (("book", "book", BOOK),)),
    (done_again, (("book", "book", BOOK),)),
    (letters, (("scene", "scene", SCENE), ("low", "point", POINT), ("high", "high", HIGH), ("count", "window", 3))),
    (picture, (("scene", "scene", SCENE),)),
    (read_picture, (("text", "text", picture(SCENE)),)),
    (run, (("lines", "lines", ("A = spot (0, 0)", "undo", "what")),)),
    (certify_least, (("chart", "map", SEAM),)),
    (certify_bent, (("scene", "scene", SCENE), ("other", "scene", ()), ("side", "side", "turns"))),
    (certify_drawn, (("chart", "least", CUT),)),
    (certify_meetings, (("scene", "scene", SCENE), ("name", "name", "A"), ("other", "name", "C"))),
    (certify_joined, (("scene", "scene", SCENE), ("pick", "pick", ("all",)), ("point", "point", POINT),
                      ("other", "point", at(5, 5)))),
    (certify_read, (("text", "text", "A = spot (0, 0)"),)),
)
FOR_ANY_VALUE = (is_point, is_figure, is_scene, is_map, is_code, is_plan, is_pick, is_book)


class Arguments(unittest.TestCase):

    def check_failure(self, error, kind, attributes):
        self.assertIs(error.__class__, kind)
        self.assertEqual(set(vars(error)), set(attributes))
        for name, value in attributes.items():
            told = getattr(error, name)
            self.assertEqual(told.__class__, value.__class__)
            self.assertTrue(told is value or (name != "given" and told == value), (told, value))

    def test_parameters_are_named_as_the_document_names_them(self):
        for function, arguments in CALLS:
            self.assertEqual(list(inspect.signature(function).parameters), [name for name, _, _ in arguments])
        for function in FOR_ANY_VALUE:
            self.assertEqual(list(inspect.signature(function).parameters), ["value"])

    def test_by_position_or_by_name_is_the_same(self):
        for function, arguments in CALLS:
            named = {name: value for name, _, value in arguments}
            told = function(*named.values())
            self.assertEqual(function(**named), told)
            self.assertEqual(function(**dict(list(named.items())[::-1])), told)

    def test_each_value_of_another_kind_is_refused(self):
        for function, arguments in CALLS:
            for name, kind, _ in arguments:
                for wrong, error, attributes in WRONG[kind]:
                    named = {other: value for other, _, value in arguments}
                    named[name] = wrong
                    with self.subTest(function=function.__name__, argument=name, wrong=wrong):
                        self.check_failure(failure(function, **named), error, attributes)
                        self.check_failure(failure(function, *named.values()), error, attributes)

    def test_of_several_wrong_ones_the_first_of_the_signature_is_told(self):
        for function, arguments in CALLS:
            for many in range(2, len(arguments) + 1):
                for names in combinations([name for name, _, _ in arguments], many):
                    for at_wrong in (0, 3, -1):
                        self.check_several(function, arguments, names, at_wrong)

    def check_several(self, function, arguments, names, at_wrong):
        named = {}
        first = None
        for name, kind, value in arguments:
            wrong, error, attributes = WRONG[kind][at_wrong]
            named[name] = wrong if name in names else value
            if name in names and first is None:
                first = error, attributes
        with self.subTest(function=function.__name__, names=names):
            self.check_failure(failure(function, **named), *first)

    def test_whatever_stands_behind_them_of_is_renaming(self):
        self.assertEqual(list(inspect.signature(is_renaming).parameters), ["chart", "other", "side", "value"])
        for value in OTHER_KINDS + (CUT, ((1, 0), (1, 0), (), (0,))):
            named = {"chart": CUT, "other": CUT, "side": "keeps", "value": value}
            self.assertIs(is_renaming(**named), False)
            for many, (name, kind) in enumerate((("chart", "map"), ("other", "map"), ("side", "side"))):
                for wrong, error, attributes in WRONG[kind][::5]:
                    self.check_failure(failure(is_renaming, **{**named, name: wrong}), error, attributes)
                    behind = {later: None for later in ("other", "side", "value")[many:]}
                    self.check_failure(failure(is_renaming, **{**named, **behind, name: wrong}), error, attributes)

    def test_whatever_stands_behind_the_scene_of_does_fit(self):
        self.assertEqual(list(inspect.signature(does_fit).parameters), ["scene", "value"])
        for value in WRONG_DEEDS:
            self.assertIs(does_fit(scene=SCENE, value=value), False)
        for wrong, error, attributes in WRONG["scene"]:
            self.check_failure(failure(does_fit, wrong, None), error, attributes)
            self.check_failure(failure(does_fit, value=("strike", "A"), scene=wrong), error, attributes)

    def test_whatever_both_are_of_accepts(self):
        self.assertEqual(list(inspect.signature(accepts).parameters), ["claim", "paper"])
        for claim in WRONG_DEEDS + WRONG_BOOKS + WRONG_MAPS:
            for paper in ((), None, claim, SCENE):
                self.assertIs(accepts(claim=claim, paper=paper), False)

    def test_equal_calls_return_equal_results(self):
        for function, arguments in CALLS:
            values = [value for _, _, value in arguments]
            self.assertEqual(function(*values), function(*values))


class Last(unittest.TestCase):

    def test_the_point_itself_among_the_points(self):
        here = at(3, 4)
        for points, index in (((here,), 0), ((at(0, 0), here), 1), ((at(0, 0), here, here), 1),
                              ((at(0, 0),) * 23 + (here,), 23)):
            error = failure(in_turn, here, points)
            self.assertIs(error.__class__, errors.InvalidPoints)
            self.assertEqual(error.index, index)

    def test_it_comes_behind_what_is_no_point(self):
        here = at(3, 4)
        error = failure(in_turn, here, (here, at(0, 0), None))
        self.assertEqual((error.__class__, error.index), (errors.InvalidPoints, 2))


class Bounds(unittest.TestCase):

    def test_rows_of_24_are_taken(self):
        segments = tuple(line(0, k, 1, k) for k in range(24))
        points = tuple(at(2, k) for k in range(24))
        self.assertEqual(len(vertices_of(segments, points)), 72)
        self.assertEqual(len(in_turn(at(0, 0), points)), 24)

    def test_rows_of_25_are_refused(self):
        segments = tuple(line(0, k, 1, k) for k in range(25))
        points = tuple(at(2, k) for k in range(25))
        for function in (vertices_of, edges_of, turns_of, walks_of):
            error = failure(function, segments, ())
            self.assertEqual((error.__class__, error.index), (errors.InvalidSegments, None))
            error = failure(function, (), points)
            self.assertEqual((error.__class__, error.index), (errors.InvalidPoints, None))
        error = failure(in_turn, at(0, 0), points)
        self.assertEqual((error.__class__, error.index), (errors.InvalidPoints, None))

    def test_an_index_into_no_walks(self):
        for index in (0, -1, None):
            error = failure(walk_area, (), (at(0, 0),), index)
            self.assertEqual((error.__class__, error.given), (errors.InvalidIndex, index))


class Interface(unittest.TestCase):

    def test_each_function_is_defined_where_the_interface_lists_it(self):
        told = {name: "bentalike." + module for module, names in INTERFACE.items() for name in names.split()}
        functions = [function for function, _ in CALLS] + list(FOR_ANY_VALUE) + [is_renaming, does_fit, accepts]
        self.assertEqual({function.__name__: function.__module__ for function in functions}, told)


class AnyValue(unittest.TestCase):

    def test_whatever_it_is_is_told_by_true_or_false(self):
        for function in FOR_ANY_VALUE:
            for value in (WRONG_POINTS + WRONG_SEGMENTS + WRONG_FIGURES + WRONG_SCENES + WRONG_CELLS + WRONG_MAPS
                          + NO_INDEXES + WRONG_PICKS + WRONG_CODES + WRONG_STEPS + WRONG_DEEDS + WRONG_BOOKS
                          + (PICK, BOOK, "[-.A]", ("all",), POINT, SEGMENT, FIGURE, SCENE, CUT, WIDE)):
                self.assertIn(function(value), (True, False))
                self.assertIsInstance(function(value), bool)


if __name__ == "__main__":
    unittest.main()
