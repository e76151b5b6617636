import random
import unittest

import charts
import places
import repick
from charts import A, ALL, B, C, CUT, DISC, EMPTY, EYE, LOOP, NESTED, NONE, RINGS, STICK
from growing import any_numbers, mirrored, renamed, some_maps
from helpers import failure
from test_needless import star
from bentalike import errors
from bentalike.needless import least, steps, taken
from bentalike.picks import cells_in, does_rim, is_pick, map_cells
from bentalike.scenes import is_scene, labels_in

BIG_A, BIG_B, BIG_C = ("name", "A"), ("name", "B"), ("name", "C")
EVERY, NOTHING = ("all",), ("not", ("all",))
# An arc with one face on both its sides, one end of it at a loop.
WHISKER = ((A, B), ((0, 0, B), (0, 1, C)), ((0, 2, 1), (3,)), (), ((NONE, ((1,),), ()), (A, ((0, 2, 3),), ())))


def deep(word, many, pick=BIG_A):
    for _ in range(many - 1):
        pick = (word, pick)
    return pick


class IsPick(unittest.TestCase):

    def test_each_word(self):
        for pick in (EVERY, BIG_A, BIG_B, BIG_C, ("name", "D")):
            self.assertIs(is_pick(pick), True)
        for word in ("not", "rim", "inner", "closure"):
            self.assertIs(is_pick((word, EVERY)), True)
            for wrong in ((word,), (word, EVERY, EVERY), (word, "A"), (word, None), (word, ()), [word, EVERY],
                          (word, [BIG_A])):
                self.assertIs(is_pick(wrong), False)
        for word in ("both", "either", "less"):
            self.assertIs(is_pick((word, BIG_A, BIG_B)), True)
            for wrong in ((word,), (word, BIG_A), (word, BIG_A, BIG_B, BIG_C), (word, BIG_A, None), (word, None, BIG_A),
                          (word, (BIG_A, BIG_B)), [word, BIG_A, BIG_B], (word, BIG_A, ["all"])):
                self.assertIs(is_pick(wrong), False)

    def test_other_values(self):
        for value in (None, True, False, 0, 1, "", "A", "all", b"all", [], {}, (), ((),), ["all"], ("all", ()),
                      ("all", "all"),
                      ("name",), ("name", "E"), ("name", "a"), ("name", "AB"), ("name", ""), ("name", None),
                      ("name", ("A",)),
                      ("name", "A", "B"), ("name", b"A"), ("name", True), ("Name", "A"), ("ALL",), (b"all",), ("any",),
                      (None,), (True, "A"), (("all",),), ("spot", ((0, 1), (0, 1))), ("name", "A", EVERY), object(),
                      ("nor", EVERY), (0, EVERY), ("both", "A", "B"), {"all": True}):
            self.assertIs(is_pick(value), False, value)

    def test_6_and_7_deep(self):
        for word in ("not", "rim", "inner", "closure"):
            for pick in (BIG_A, EVERY):
                self.assertIs(is_pick(deep(word, 6, pick)), True)
                self.assertIs(is_pick(deep(word, 7, pick)), False)
        for word in ("both", "either", "less"):
            five = deep("not", 5)
            six = deep("not", 6)
            self.assertIs(is_pick((word, five, five)), True)
            self.assertIs(is_pick((word, BIG_A, five)), True)
            for pick in ((word, six, BIG_A), (word, BIG_A, six), (word, six, six)):
                self.assertIs(is_pick(pick), False)

    def test_far_too_deep(self):
        self.assertIs(is_pick(deep("not", 29)), False)


class Cells(unittest.TestCase):

    def test_all_ascending(self):
        self.assertEqual(map_cells(EMPTY), (("face", 0),))
        self.assertEqual(map_cells(EYE), (("face", 0), ("face", 1), ("ring", 0), ("special", 0), ("special", 1)))
        self.assertEqual(map_cells(STICK), (("arc", 0), ("face", 0), ("special", 0), ("special", 1)))
        for chart in some_maps(71, 40, 25):
            cells = map_cells(chart)
            self.assertEqual(list(cells), sorted(repick.cells(chart)))

    def test_numbers_above_9_ascend_as_numbers(self):
        many = 12
        chart = ((A,) * many, (), ((),) * many, (), ((NONE, (), tuple(range(many))),))
        self.assertEqual(map_cells(chart), (("face", 0),) + tuple(("special", spot) for spot in range(many)))

    def test_which_rims_which_by_hand(self):
        told = (
            (STICK, ("special", 0), [("arc", 0), ("face", 0)]), (STICK, ("arc", 0), [("face", 0)]),
            (STICK, ("face", 0), []), (EYE, ("special", 0), [("face", 0)]), (EYE, ("special", 1), [("face", 1)]),
            (EYE, ("ring", 0), [("face", 0), ("face", 1)]), (EYE, ("face", 1), []),
            (RINGS, ("ring", 1), [("face", 1), ("face", 2)]),
            (LOOP, ("special", 0), [("arc", 0), ("face", 0), ("face", 1)]),
            (LOOP, ("arc", 0), [("face", 0), ("face", 1)]),
            (LOOP, ("special", 1), [("face", 1)]), (CUT, ("arc", 1), [("face", 1), ("face", 2)]),
            (CUT, ("special", 0), [("arc", 0), ("arc", 1), ("arc", 2), ("face", 0), ("face", 1), ("face", 2)]),
            (WHISKER, ("arc", 1), [("face", 1)]), (WHISKER, ("special", 1), [("arc", 1), ("face", 1)]),
            (NESTED, ("special", 2), [("arc", 2), ("face", 1)]), (NESTED, ("arc", 2), [("face", 1)]),
        )
        for chart, cell, rimmed in told:
            self.assertEqual([other for other in map_cells(chart) if does_rim(chart, cell, other)], rimmed)

    def test_no_cell_rims_itself(self):
        for chart in ALL:
            for cell in map_cells(chart):
                self.assertIs(does_rim(chart, cell, cell), False)

    def test_as_the_oracle_tells(self):
        for chart in ALL + (WHISKER,) + tuple(some_maps(72, 40, 10)):
            for cell in map_cells(chart):
                for other in map_cells(chart):
                    self.assertIs(does_rim(chart, cell, other), other in repick.rimmed(chart, cell))

    def test_none_of_the_map(self):
        wrong = (("special", 2), ("special", -1), ("arc", 1), ("face", 1), ("ring", 0), ("special", True),
                 ("face", False),
                 ("vertex", 0), ("edge", 0), ("Face", 0), (b"face", 0), ("face",), ("face", 0, 0), ["face", 0], "face",
                 None,
                 0, True, (), ("face", "0"), ("face", None), (0, "face"), ("face", (0,)), ("face", [0]), (["face"], 0),
                 ("face", 10 ** 500), {}, object())
        for cell in wrong:
            for row in ((cell, ("face", 0)), (("face", 0), cell), (cell, cell), (cell, None)):
                error = failure(does_rim, STICK, *row)
                self.assertIs(error.__class__, errors.InvalidCell)
                self.assertIs(error.given, row[0] if row[0] is cell else cell)


class CellsIn(unittest.TestCase):

    def test_names_and_all(self):
        self.assertEqual(cells_in(EYE, BIG_A), (("face", 1), ("ring", 0), ("special", 0))[1:])
        self.assertEqual(cells_in(EYE, BIG_B), (("special", 1),))
        self.assertEqual(cells_in(EYE, ("name", "D")), ())
        for chart in ALL:
            self.assertEqual(cells_in(chart, EVERY), map_cells(chart))
            self.assertEqual(cells_in(chart, NOTHING), ())
        self.assertEqual(cells_in(EMPTY, BIG_A), ())
        self.assertEqual(cells_in(CUT, BIG_B), (("arc", 1), ("special", 0), ("special", 1)))

    def test_each_word_by_hand(self):
        told = {
            ("not", BIG_A): (("face", 0),),
            ("closure", ("not", BIG_A)): (("arc", 0), ("arc", 2), ("face", 0), ("special", 0), ("special", 1)),
            ("inner", BIG_A): (("arc", 1), ("face", 1), ("face", 2)),
            ("rim", BIG_A): (("arc", 0), ("arc", 2), ("special", 0), ("special", 1)),
            ("inner", BIG_B): (), ("closure", BIG_B): (("arc", 1), ("special", 0), ("special", 1)),
            ("rim", BIG_B): (("arc", 1), ("special", 0), ("special", 1)),
            ("both", BIG_A, BIG_B): (("arc", 1), ("special", 0), ("special", 1)),
            ("either", BIG_A, BIG_B): (("arc", 0), ("arc", 1), ("arc", 2), ("face", 1), ("face", 2), ("special", 0),
                                       ("special", 1)),
            ("less", BIG_A, BIG_B): (("arc", 0), ("arc", 2), ("face", 1), ("face", 2)),
            ("less", BIG_B, BIG_A): (), ("rim", EVERY): (), ("inner", EVERY): map_cells(CUT),
            ("rim", ("less", BIG_A, BIG_B)): (("arc", 0), ("arc", 1), ("arc", 2), ("special", 0), ("special", 1)),
        }
        for pick, cells in told.items():
            self.assertEqual(cells_in(CUT, pick), cells)

    def test_one_within_another(self):
        inner_a = ("inner", BIG_A)
        self.assertEqual(cells_in(DISC, inner_a), (("face", 1),))
        self.assertEqual(cells_in(DISC, ("closure", inner_a)), (("face", 1), ("ring", 0)))
        self.assertEqual(cells_in(DISC, ("rim", ("rim", BIG_A))), (("ring", 0),))
        self.assertEqual(cells_in(DISC, ("inner", ("rim", BIG_A))), ())
        self.assertEqual(cells_in(DISC, ("rim", inner_a)), (("ring", 0),))

    def test_what_is_neither_open_nor_closed(self):
        # A disc with half of its rim.
        half = ((NONE, A), ((0, 1, A), (1, 0, NONE)), ((0, 3), (1, 2)), (), ((NONE, ((1, 3),), ()), (A, ((0, 2),), ())))
        self.assertEqual(cells_in(half, BIG_A), (("arc", 0), ("face", 1), ("special", 1)))
        self.assertEqual(cells_in(half, ("inner", BIG_A)), (("face", 1),))
        self.assertEqual(cells_in(half, ("closure", BIG_A)), (("arc", 0), ("arc", 1), ("face", 1), ("special", 0),
                                                              ("special", 1)))
        self.assertEqual(cells_in(half, ("rim", BIG_A)), (("arc", 0), ("arc", 1), ("special", 0), ("special", 1)))

    def test_as_the_oracle_tells(self):
        chance = random.Random(73)
        for chart in ALL + (WHISKER, star(A, (A, B))) + tuple(some_maps(74, 150, 12)):
            for many in range(1, 7):
                pick = repick.some_pick(chance, many)
                self.assertEqual(cells_in(chart, pick), tuple(sorted(repick.picked(chart, pick))))

    def test_these_are_the_cells_of_the_places_that_the_words_tell(self):
        chance = random.Random(75)
        done = 0
        while done < 60:
            figures = {name: places.some_figure(chance, chance.randrange(1, 3), 4) for name in "AB"}
            pick = repick.some_pick(chance, chance.randrange(2, 4), "AB")
            figure = composed(pick, figures)
            scene = tuple(figures.items()) + (("C", figure),)
            if figure is not None and is_scene(scene):
                chart = charts.map_of_scene(scene)
                told = {cell for cell in repick.cells(chart) if "C" in repick.label(chart, cell)}
                self.assertEqual(set(cells_in(chart, pick)), told)
                self.assertEqual(set(cells_in(chart, BIG_C)), told)
                self.assertEqual(len(labels_in(scene)[0]), len(chart[0]))
                done += 1

    def test_they_come_to_one_another_by_renamings_and_stay_by_steps(self):
        chance = random.Random(76)
        for chart in some_maps(77, 60, 10):
            pick = repick.some_pick(chance, 4)
            numbers = any_numbers(chance, chart)
            for seen in (chart, mirrored(chart)):
                other = renamed(seen, numbers)
                led = {led_cell(numbers, cell) for cell in cells_in(chart, pick)}
                self.assertEqual(set(cells_in(other, pick)), led)
            bare = least(chart)
            self.assertEqual(bool(cells_in(bare, pick)), bool(cells_in(chart, pick)))
            self.assertEqual(len(cells_in(bare, pick)) == len(map_cells(bare)),
                             len(cells_in(chart, pick)) == len(map_cells(chart)))
            for step in steps(chart)[:2]:
                self.assertEqual(bool(cells_in(taken(chart, step), pick)), bool(cells_in(chart, pick)))


def composed(pick, figures):
    """The figure that a pick of names alone tells; None if it has other words."""
    if pick[0] == "name":
        return figures[pick[1]]
    if pick[0] in ("all", "not"):
        return None
    parts = [composed(part, figures) for part in pick[1:]]
    return None if None in parts else (pick[0],) + tuple(parts)


def led_cell(numbers, cell):
    specials, darts, rings, faces = numbers
    kind, index = cell
    if kind == "arc":
        return kind, darts[2 * index] // 2
    return kind, {"special": specials, "ring": rings, "face": faces}[kind][index]


if __name__ == "__main__":
    unittest.main()
