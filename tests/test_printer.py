import random
import unittest

import places
import repick
import retext
from helpers import at
from test_plans import scenes
from bentalike.figures import is_figure
from bentalike.picks import is_pick
from bentalike.printer import figure_text, pick_text, scene_text
from bentalike.reader import read_figure, read_pick, read_scene
from bentalike.scenes import is_scene

A, B, C = [("name", name) for name in "ABC"]
DOT, SPOT = "spot (0, 0)", ("spot", at(0, 0))
PAIRED = ("both", "either", "less")
GREAT = 10 ** 399
# Small picks of all kinds that a sign or a prefix may stand beside.
SMALL = (A, ("all",), ("not", A), ("rim", B), ("both", A, B), ("either", A, B), ("less", A, B))


def pairs_of_brackets(text):
    """The pairs of places of a bracket and the one that closes it."""
    found, waiting = [], []
    for place, sign in enumerate(text):
        if sign == "[":
            waiting.append(place)
        elif sign == "]":
            found.append((waiting.pop(), place))
    return found


class Written(unittest.TestCase):

    def check_texts(self, writes, *pairs):
        for value, text in pairs:
            with self.subTest(text):
                self.assertEqual(writes(value), text)

    def test_spots_paths_areas(self):
        self.check_texts(
            figure_text, (SPOT, DOT), (("spot", ((1, 2), (-7, 3))), "spot (1/2, -7/3)"),
            (("path", (at(0, 0), at(1, -1))), "path (0, 0) (1, -1)"),
            (("area", (at(0, 0), at(1, 0), ((0, 1), (5, 9)))), "area (0, 0) (1, 0) (0, 5/9)"),
            (("spot", ((GREAT, 1), (-1, GREAT))), f"spot ({GREAT}, -1/{GREAT})"))

    def test_prefixes(self):
        self.check_texts(figure_text, (("rim", SPOT), "rim " + DOT), (("inner", SPOT), "inner " + DOT),
                         (("closure", ("inner", ("rim", SPOT))), "closure inner rim " + DOT))
        self.check_texts(pick_text, (("not", A), "not A"), (("not", ("all",)), "not all"), (A, "A"), (("all",), "all"),
                         (("not", ("not", ("rim", B))), "not not rim B"))

    def test_brackets_around_what_a_prefix_stands_ahead_of(self):
        for prefix in ("rim", "inner", "closure", "not"):
            for kind, sign in (("either", "+"), ("less", "-"), ("both", "&")):
                self.check_texts(pick_text, ((prefix, (kind, A, B)), f"{prefix} [A {sign} B]"))
        self.check_texts(figure_text, (("rim", ("both", SPOT, SPOT)), f"rim [{DOT} & {DOT}]"))

    def test_brackets_beside_signs(self):
        self.check_texts(
            pick_text, (("either", ("either", A, B), C), "A + B + C"), (("either", A, ("either", B, C)), "A + [B + C]"),
            (("less", ("either", A, B), C), "A + B - C"), (("less", A, ("either", B, C)), "A - [B + C]"),
            (("either", A, ("less", B, C)), "A + [B - C]"), (("less", A, ("less", B, C)), "A - [B - C]"),
            (("either", ("less", A, B), C), "A - B + C"), (("less", ("less", A, B), C), "A - B - C"),
            (("either", ("both", A, B), C), "A & B + C"), (("either", A, ("both", B, C)), "A + B & C"),
            (("less", ("both", A, B), C), "A & B - C"), (("less", A, ("both", B, C)), "A - B & C"),
            (("both", ("either", A, B), C), "[A + B] & C"), (("both", A, ("either", B, C)), "A & [B + C]"),
            (("both", ("less", A, B), C), "[A - B] & C"), (("both", A, ("less", B, C)), "A & [B - C]"),
            (("both", ("both", A, B), C), "A & B & C"), (("both", A, ("both", B, C)), "A & [B & C]"),
            (("both", ("rim", A), ("not", B)), "rim A & not B"), (("less", ("rim", A), ("not", B)), "rim A - not B"))

    def test_brackets_further_in(self):
        self.check_texts(
            pick_text, (("either", A, ("both", ("either", A, B), C)), "A + [A + B] & C"),
            (("both", ("both", ("less", A, B), C), A), "[A - B] & C & A"),
            (("either", ("both", A, ("both", B, C)), A), "A & [B & C] + A"),
            (("rim", ("rim", ("either", A, ("rim", ("less", B, C))))), "rim rim [A + rim [B - C]]"))

    def test_scenes(self):
        self.check_texts(scene_text, ((), ""), ((("C", SPOT),), f"C = {DOT};\n"),
                         ((("A", SPOT), ("D", ("rim", ("less", SPOT, SPOT)))),
                          f"A = {DOT};\nD = rim [{DOT} - {DOT}];\n"))

    def test_brackets_stand_just_where_they_must(self):
        for text in self.some_texts():
            value = read_pick(text)
            for start, end in pairs_of_brackets(text):
                other = text[:start] + text[start + 1:end] + text[end + 1:]
                self.assertNotEqual(retext.read(other, "pick")[1], value, text)

    def some_texts(self):
        firsts = [(word, part) for word in ("not", "rim") for part in SMALL]
        firsts += [(word, part, other) for word in PAIRED for part in SMALL for other in SMALL]
        chance = random.Random(311)
        return [pick_text(pick) for pick in firsts + [repick.some_pick(chance, 6) for _ in range(200)]]


class ReadAgain(unittest.TestCase):

    def test_figures_of_random_scenes(self):
        for scene in scenes(312, 150, 6):
            self.assertEqual(read_scene(scene_text(scene)), scene)
            for _, figure in scene:
                self.assertEqual(read_figure(figure_text(figure)), figure)

    def test_random_picks(self):
        chance = random.Random(313)
        for _ in range(400):
            pick = repick.some_pick(chance, chance.randrange(1, 7), "ABCD")
            self.assertIs(is_pick(pick), True)
            self.assertEqual(read_pick(pick_text(pick)), pick)

    def test_figures_as_deep_as_may_be(self):
        figures, picks = [SPOT, ("path", (at(0, 0), at(1, 0)))], [A, ("all",)]
        chance = random.Random(314)
        for _ in range(5):
            for values, words in ((figures, ("rim",)), (picks, ("not", "closure"))):
                values[:] = [(word, value) for word in words for value in values] + [
                    (word, value, chance.choice(values)) for word in PAIRED for value in values] + [
                    (word, chance.choice(values), value) for word in PAIRED for value in values]
                values[:] = chance.sample(values, min(len(values), 40))
        for figure in figures:
            if is_figure(figure):
                self.assertEqual(read_figure(figure_text(figure)), figure)
        for pick in picks:
            self.assertEqual(read_pick(pick_text(pick)), pick)

    def test_all_small_values_are_unlike_in_text(self):
        firsts = SMALL + tuple((word, part) for word in ("not", "rim", "closure") for part in SMALL)
        firsts += tuple((word, part, other) for word in PAIRED for part in SMALL for other in SMALL)
        self.assertEqual(len({pick_text(pick) for pick in firsts}), len(set(firsts)))

    def test_numbers_of_400_digits(self):
        most = 10 ** 400 - 1
        for x in ((most, 1), (-most, 1), (1, most), (-most, most - 1), (most - 1, most)):
            figure = ("path", (((0, 1), x), (x, (0, 1)), (x, x)))
            self.assertEqual(read_figure(figure_text(figure)), figure)

    def test_what_was_read_is_written_in_lowest_terms(self):
        self.assertEqual(figure_text(read_figure("[[spot(04/2,-0/3)]]")), "spot (2, 0)")
        self.assertEqual(scene_text(read_scene("let a=spot(0,0);B=a+[a];#x\nA=[rim[a]];")),
                         f"A = rim {DOT};\nB = {DOT} + {DOT};\n")

    def test_texts_as_they_may_be_told_are_read_again_as_they_are_written(self):
        chance = random.Random(315)
        many = 0
        for _ in range(400):
            text = retext.laid_out(chance, retext.some_words(chance, "scene"))
            wrong, scene = retext.read(text, "scene")
            if wrong is None:
                many += 1
                self.assertIs(is_scene(scene), True)
                self.assertEqual(read_scene(scene_text(scene)), scene)
                self.assertEqual(retext.read(scene_text(scene), "scene"), (None, scene))
        self.assertGreater(many, 100)

    def test_random_figures_of_all_depths(self):
        chance = random.Random(316)
        for deep in range(1, 7):
            for _ in range(60):
                figure = places.some_figure(chance, deep, 5)
                if is_figure(figure):
                    text = figure_text(figure)
                    self.assertEqual(read_figure(text), figure)
                    self.assertEqual(retext.read(text, "figure"), (None, figure))


if __name__ == "__main__":
    unittest.main()
