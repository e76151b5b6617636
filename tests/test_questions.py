import random
import unittest

import repick
from charts import A, AB, ALL, B, C, CUT, DISC, EMPTY, EYE, LOOP, NONE, RINGS, STICK
from growing import any_numbers, mirrored, renamed, some_maps
from helpers import failure
from test_needless import flower, star
from test_picks import BIG_A, BIG_B, BIG_C, EVERY, NOTHING, WHISKER, led_cell
from bentalike import errors
from bentalike.maps import is_map
from bentalike.needless import least, steps, taken
from bentalike.picks import cells_in
from bentalike.questions import (
    euler_in, holes_in, is_bounded_in, is_closed_in, is_open_in, meetings_in, nesting_in, pieces_in, surrounds, word_in
)

ABC = ("A", "B", "C")


def rings_of(*labels):
    """Rings in rings, from outside in: pairs of the label of a ring and of the face within it."""
    rings = tuple((label, at + 1, at) for at, (label, _) in enumerate(labels))
    return ((), (), (), rings, ((NONE, (), ()),) + tuple((label, (), ()) for _, label in labels))


# Closed rings of A in one another, of B between them.
TARGET = rings_of((A, A), (A, B), (A, A), (A, B), (A, A))


class Meetings(unittest.TestCase):

    def test_each_word(self):
        disc_in_disc = rings_of((A, A), (AB, AB))
        ring_of_both = rings_of((AB, A))
        side_by_side = ((), (), (), ((A, 1, 0), (B, 2, 0)), ((NONE, (), ()), (A, (), ()), (B, (), ())))
        touching = flower(AB, (A, B), (A, B))
        rim_to_rim = ((NONE, NONE), ((0, 1, A), (0, 1, NONE), (0, 1, B)), CUT[2], (),
                      (CUT[4][0], (A, CUT[4][1][1], ()), (B, CUT[4][2][1], ())))
        crossing = star(AB, (A, B))
        told = ((EMPTY, "same"), (ring_of_both, "around"), (disc_in_disc, "around"), (DISC, "around"),
                (side_by_side, "apart"), (touching, "crossing"), (rim_to_rim, "touching"), (crossing, "crossing"),
                (rings_of((AB, AB)), "same"), (rings_of((A, A), (B, NONE)), "touching"), (rings_of((B, B)), "within"),
                (rings_of((NONE, A), (A, B)), "touching"), (rings_of((A, NONE), (NONE, C), (B, B)), "apart"))
        for chart, word in told:
            self.assertIs(is_map(chart), True)
            self.assertEqual(word_in(chart, "A", "B"), word)
            turned_word = {"around": "within", "within": "around"}.get(word, word)
            self.assertEqual(word_in(chart, "B", "A"), turned_word)

    def test_of_a_name_and_itself(self):
        for chart in ALL + tuple(some_maps(81, 30, 8)):
            for name in "ABCD":
                self.assertEqual(word_in(chart, name, name), "same")
                told = meetings_in(chart, name, name)
                self.assertEqual([told[at] for at in (1, 2, 3, 5, 6, 7)], [False] * 6)

    def test_of_names_that_no_cell_has(self):
        for chart in (EMPTY, STICK, DISC):
            self.assertEqual(word_in(chart, "C", "D"), "same")
            self.assertEqual(meetings_in(chart, "C", "D"), (False,) * 8 + (True,))
        self.assertEqual((word_in(STICK, "D", "A"), word_in(STICK, "A", "D")), ("within", "around"))

    def test_nine_truths_by_hand(self):
        self.assertEqual(meetings_in(DISC, "A", "B"), (False, False, True, False, False, True, False, False, True))
        self.assertEqual(meetings_in(DISC, "B", "A"), (False,) * 6 + (True, True, True))
        self.assertEqual(meetings_in(CUT, "A", "B"), (False, True, True, False, True, True, False, False, True))
        self.assertEqual(meetings_in(CUT, "B", "A"), (False, False, False, True, True, False, True, True, True))
        crossed = star(AB, (A, B))
        self.assertEqual(meetings_in(crossed, "A", "B"), (False, False, False, False, True, True, False, True, True))

    def test_as_the_oracle_tells(self):
        found = set()
        for chart in ALL + (TARGET,) + tuple(some_maps(82, 250, 6, (NONE, A, B, AB))):
            for name, other in (("A", "B"), ("B", "A"), ("A", "C")):
                self.assertEqual(meetings_in(chart, name, other), self.nine(chart, name, other))
                word = self.word(chart, name, other)
                self.assertEqual(word_in(chart, name, other), word)
                found.add(word)
        self.assertEqual(found, {"same", "within", "around", "crossing", "touching", "apart"})

    def thirds(self, chart, name):
        own = ("name", name)
        return [repick.picked(chart, pick) for pick in (("inner", own), ("rim", own), ("not", ("closure", own)))]

    def nine(self, chart, name, other):
        return tuple(bool(row & column) for row in self.thirds(chart, name) for column in self.thirds(chart, other))

    def word(self, chart, name, other):
        first, second = [repick.picked(chart, ("name", each)) for each in (name, other)]
        near = [repick.picked(chart, ("closure", ("name", each))) for each in (name, other)]
        tests = (("same", first == second), ("within", first <= second), ("around", second <= first),
                 ("crossing", first & second), ("touching", near[0] & near[1]), ("apart", True))
        return next(word for word, is_so in tests if is_so)

    def test_no_names(self):
        for name in ("E", "a", "", "AB", None, True, 0, ("A",), ["A"], b"A"):
            for function in (meetings_in, word_in):
                for row in ((name, "A"), ("A", name), (name, None)):
                    error = failure(function, DISC, *row)
                    self.assertIs(error.__class__, errors.InvalidName)
                    self.assertIs(error.given, name)


class Pieces(unittest.TestCase):

    def test_of_all_and_of_nothing(self):
        for chart in ALL:
            self.assertEqual(pieces_in(chart, EVERY), (cells_in(chart, EVERY),))
            self.assertEqual(holes_in(chart, EVERY), ())
            self.assertEqual(pieces_in(chart, NOTHING), ())
            self.assertEqual(holes_in(chart, NOTHING), ())
            self.assertEqual(nesting_in(chart, NOTHING), ())
            self.assertEqual(nesting_in(chart, EVERY), (None,))

    def test_in_the_order_of_their_first_cells(self):
        self.assertEqual(pieces_in(EYE, ("either", BIG_A, BIG_B)),
                         ((("ring", 0),), (("special", 0),), (("special", 1),)))
        self.assertEqual(pieces_in(TARGET, BIG_B), ((("face", 2),), (("face", 4),)))
        self.assertEqual(pieces_in(TARGET, BIG_A),
                         ((("face", 1), ("ring", 0), ("ring", 1)), (("face", 3), ("ring", 2), ("ring", 3)),
                          (("face", 5), ("ring", 4))))

    def test_holes(self):
        self.assertEqual(holes_in(TARGET, BIG_A), ((("face", 2),), (("face", 4),)))
        self.assertEqual(holes_in(TARGET, BIG_B), ((("face", 3), ("ring", 2), ("ring", 3)), (("face", 5), ("ring", 4))))
        self.assertEqual(holes_in(DISC, BIG_A), ())
        self.assertEqual(holes_in(DISC, ("rim", BIG_A)), ((("face", 1),),))
        self.assertEqual(holes_in(DISC, ("not", BIG_A)), ((("face", 1), ("ring", 0)),))
        self.assertEqual(holes_in(EYE, ("not", BIG_B)), ((("special", 1),),))

    def test_pieces_that_touch_in_a_special_alone(self):
        faces = flower(A, (B, B), (A, A))
        self.assertEqual(len(pieces_in(faces, BIG_A)), 1)
        self.assertEqual(len(pieces_in(faces, ("closure", ("less", BIG_A, ("rim", BIG_A))))), 1)
        self.assertEqual(len(pieces_in(faces, ("less", BIG_A, ("rim", BIG_A)))), 2)
        closed = flower(A, (A, A), (A, A))
        self.assertEqual((len(pieces_in(closed, BIG_A)), len(holes_in(closed, BIG_A))), (1, 0))
        without = flower(NONE, (A, A), (A, A))
        self.assertEqual(len(pieces_in(without, BIG_A)), 2)

    def test_a_special_alone_between_two_faces(self):
        # Two faces that meet in a special: they are joined just if it is there.
        for label in (NONE, A):
            chart = flower(label, (NONE, NONE), (A, A))
            self.assertEqual(len(pieces_in(chart, BIG_A)), 1 if label == A else 2)

    def test_several_holes(self):
        holed = ((), (), (), ((A, 1, 0), (A, 2, 1), (A, 3, 1), (B, 4, 1)),
                 ((NONE, (), ()), (A, (), ()), (NONE, (), ()), (B, (), ()), (NONE, (), ())))
        self.assertEqual(len(pieces_in(holed, BIG_A)), 1)
        self.assertEqual(len(holes_in(holed, BIG_A)), 3)
        self.assertEqual(pieces_in(holed, BIG_B), ((("face", 3),), (("ring", 3),)))
        self.assertEqual(nesting_in(holed, BIG_B), (None, None))

    def test_bounded_and_not(self):
        self.assertEqual(pieces_in(DISC, ("not", ("rim", BIG_A))), ((("face", 0),), (("face", 1),)))
        self.assertEqual(holes_in(DISC, ("rim", BIG_A)), ((("face", 1),),))
        for pick, told in ((BIG_A, True), (("not", BIG_A), False), (EVERY, False), (NOTHING, True),
                           (("name", "D"), True)):
            self.assertIs(is_bounded_in(DISC, pick), told)

    def test_as_the_oracle_tells(self):
        chance = random.Random(83)
        for chart in ALL + (TARGET, WHISKER) + tuple(some_maps(84, 120, 9)):
            for _ in range(2):
                pick = repick.some_pick(chance, chance.randrange(1, 5))
                own = repick.picked(chart, pick)
                told = repick.pieces(chart, own)
                self.assertEqual(pieces_in(chart, pick), told)
                self.assertEqual(holes_in(chart, pick), repick.holes(chart, own))
                self.assertIs(is_bounded_in(chart, pick), ("face", 0) not in own)
                self.assertIs(is_open_in(chart, pick), repick.picked(chart, ("inner", pick)) == own)
                self.assertIs(is_closed_in(chart, pick), repick.picked(chart, ("closure", pick)) == own)


class Surrounding(unittest.TestCase):

    def test_rings_in_rings(self):
        self.assertEqual(nesting_in(TARGET, BIG_A), (None, 0, 1))
        self.assertEqual(nesting_in(TARGET, BIG_B), (None, 0))
        told = [[surrounds(TARGET, BIG_A, first, second) for second in range(3)] for first in range(3)]
        self.assertEqual(told, [[False, True, True], [False, False, True], [False, False, False]])

    def test_a_piece_without_bound_surrounds_all_others(self):
        outside = ("either", ("not", BIG_A), BIG_B)
        told = ("not", BIG_A)
        self.assertEqual(pieces_in(TARGET, told), ((("face", 0),), (("face", 2),), (("face", 4),)))
        self.assertEqual(nesting_in(TARGET, told), (None, 0, 1))
        self.assertEqual([surrounds(TARGET, told, 0, other) for other in range(3)], [False, True, True])
        self.assertEqual(nesting_in(TARGET, outside), (None, 0, 1))

    def test_side_by_side(self):
        self.assertEqual(nesting_in(RINGS, ("either", BIG_A, BIG_C)), (None, 0, None))
        self.assertEqual(pieces_in(RINGS, BIG_C), ((("face", 4), ("ring", 3)),))
        self.assertEqual(nesting_in(RINGS, BIG_C), (None,))
        spots = ((A,) * 4, (), ((),) * 4, ((A, 1, 0),), ((NONE, (), (0, 3)), (NONE, (), (1, 2))))
        self.assertEqual(pieces_in(spots, BIG_A)[0], (("ring", 0),))
        self.assertEqual(nesting_in(spots, BIG_A), (None, None, 0, 0, None))

    def test_pieces_in_holes_of_pieces(self):
        # A net of A with a ring of A in each of its faces, in one of these a spot.
        chart = ((A, A, A), ((0, 1, A), (0, 1, A), (0, 1, A)), CUT[2] + ((),), ((A, 3, 1), (A, 4, 2)),
                 ((NONE,) + CUT[4][0][1:], (NONE, ((1, 2),), ()), (NONE, ((3, 4),), ()), (NONE, (), (2,)),
                  (NONE, (), ())))
        self.assertIs(is_map(chart), True)
        self.assertEqual([piece[0] for piece in pieces_in(chart, BIG_A)],
                         [("arc", 0), ("ring", 0), ("ring", 1), ("special", 2)])
        self.assertEqual(nesting_in(chart, BIG_A), (None, 0, 0, 1))
        self.assertEqual([surrounds(chart, BIG_A, index, 3) for index in range(4)], [True, True, False, False])

    def test_what_is_open_surrounds_too(self):
        chart = rings_of((NONE, A), (NONE, B), (B, A))
        self.assertEqual(pieces_in(chart, BIG_A), ((("face", 1),), (("face", 3),)))
        self.assertEqual(nesting_in(chart, BIG_A), (None, 0))

    def test_as_the_oracle_tells(self):
        chance = random.Random(85)
        deepest = 0
        for chart in ALL + (TARGET,) + tuple(some_maps(86, 120, 12)):
            pick = repick.some_pick(chance, chance.randrange(1, 4))
            told = pieces_in(chart, pick)
            around = repick.surrounding(chart, told)
            for index in range(len(told)):
                for other in range(len(told)):
                    self.assertIs(surrounds(chart, pick, index, other), index in around[other])
            expected = [repick.innermost(around, index) for index in range(len(told))]
            self.assertEqual(nesting_in(chart, pick), tuple(expected))
            deepest = max([deepest] + [len(row) for row in around])
        self.assertGreater(deepest, 1)

    def test_no_index_of_a_piece(self):
        for index in (3, 4, -1, -3, True, False, None, "0", (0,), [0], 10 ** 500):
            for row in ((index, 0), (0, index), (index, None)):
                error = failure(surrounds, TARGET, BIG_A, *row)
                self.assertIs(error.__class__, errors.InvalidIndex)
                self.assertIs(error.given, index)
        for row in ((0, 0), (0, 1)):
            error = failure(surrounds, TARGET, NOTHING, *row)
            self.assertEqual((error.__class__, error.given), (errors.InvalidIndex, 0))

    def test_many_pieces(self):
        many = 2000
        spots = ((A,) * many, (), ((),) * many, (), ((NONE, (), tuple(range(many))),))
        self.assertEqual(nesting_in(spots, BIG_A), (None,) * many)
        rings = rings_of(*[(A, NONE)] * 1000)
        self.assertEqual(nesting_in(rings, BIG_A), (None,) + tuple(range(999)))


class Euler(unittest.TestCase):

    def test_of_each_cell(self):
        self.assertEqual(euler_in(EMPTY, EVERY), 1)
        self.assertEqual([euler_in(chart, NOTHING) for chart in ALL], [0] * len(ALL))
        self.assertEqual([euler_in(chart, EVERY) for chart in ALL], [1] * len(ALL))
        self.assertEqual([euler_in(STICK, pick) for pick in (BIG_A, ("not", BIG_A))], [1, 0])
        self.assertEqual([euler_in(DISC, pick) for pick in (BIG_A, ("rim", BIG_A), ("inner", BIG_A), ("not", BIG_A))],
                         [1, 0, 1, 0])
        self.assertEqual([euler_in(EYE, pick) for pick in (BIG_A, BIG_B, ("not", BIG_A), ("not", BIG_B))], [1, 1, 0, 0])
        self.assertEqual([euler_in(TARGET, pick) for pick in (BIG_A, BIG_B)], [1, 0])
        self.assertEqual([euler_in(CUT, pick) for pick in (BIG_A, BIG_B, ("inner", BIG_A), ("less", BIG_A, BIG_B))],
                         [1, 1, 1, 0])

    def test_of_a_disc_with_half_of_its_rim(self):
        half = ((NONE, NONE), ((0, 1, A), (1, 0, NONE)), ((0, 3), (1, 2)), (),
                ((NONE, ((1, 3),), ()), (A, ((0, 2),), ())))
        self.assertEqual(euler_in(half, BIG_A), 0)

    def test_pieces_less_holes_of_what_is_open_and_of_what_is_closed_and_bounded(self):
        chance = random.Random(87)
        done = {"open": 0, "closed": 0, "not bounded": 0}
        for chart in ALL + (TARGET, WHISKER) + tuple(some_maps(88, 300, 14)):
            pick = repick.some_pick(chance, chance.randrange(1, 4))
            for told in (("inner", pick), ("closure", pick), ("rim", pick), ("not", ("closure", pick)), pick):
                pieces, holes = pieces_in(chart, told), holes_in(chart, told)
                many = len(pieces) - len(holes)
                if is_open_in(chart, told):
                    self.assertEqual(euler_in(chart, told), many)
                    done["open"] += 1
                if is_closed_in(chart, told) and is_bounded_in(chart, told):
                    self.assertEqual(euler_in(chart, told), many)
                    done["closed"] += 1
                if is_closed_in(chart, told):
                    rest = len(pieces_in(chart, ("not", told)))
                    bounded = [piece for piece in pieces if ("face", 0) not in piece]
                    self.assertEqual(euler_in(chart, told), 1 - rest + len(bounded))
                    done["not bounded"] += not is_bounded_in(chart, told)
        self.assertGreater(min(done.values()), 100)

    def test_as_the_document_words_it(self):
        chance = random.Random(89)
        for chart in some_maps(90, 100, 12):
            pick = repick.some_pick(chance, 3)
            total = 0
            for kind, index in repick.picked(chart, pick):
                if kind == "face":
                    rings = [ring for ring in chart[3] if index in ring[1:]]
                    told = len(chart[4][index][1]) + len(chart[4][index][2]) + len(rings)
                    total += (2 if index else 1) - told
                else:
                    total += {"special": 1, "arc": -1, "ring": 0}[kind]
            self.assertEqual(euler_in(chart, pick), total)


class OpenAndClosed(unittest.TestCase):

    def test_by_hand(self):
        told = ((DISC, BIG_A, False, True), (DISC, ("inner", BIG_A), True, False), (DISC, ("rim", BIG_A), False, True),
                (DISC, ("not", BIG_A), True, False), (DISC, EVERY, True, True), (DISC, NOTHING, True, True),
                (EMPTY, EVERY, True, True), (EMPTY, BIG_A, True, True), (STICK, BIG_A, False, True),
                (STICK, ("not", BIG_A), True, False), (EYE, BIG_A, False, True), (EYE, ("not", BIG_B), True, False),
                (LOOP, BIG_A, False, False), (LOOP, BIG_B, False, True), (LOOP, BIG_C, False, False))
        for chart, pick, is_open, is_closed in told:
            self.assertIs(is_open_in(chart, pick), is_open)
            self.assertIs(is_closed_in(chart, pick), is_closed)

    def test_closure_inner_and_rim_of_one_another(self):
        chance = random.Random(91)
        for chart in some_maps(92, 60, 10):
            pick = repick.some_pick(chance, 3)
            self.assertIs(is_closed_in(chart, ("closure", pick)), True)
            self.assertIs(is_open_in(chart, ("inner", pick)), True)
            self.assertIs(is_closed_in(chart, ("rim", pick)), True)
            self.assertEqual(cells_in(chart, ("closure", ("closure", pick))), cells_in(chart, ("closure", pick)))
            self.assertEqual(cells_in(chart, ("not", ("inner", pick))), cells_in(chart, ("closure", ("not", pick))))
            self.assertIs(is_open_in(chart, pick), is_closed_in(chart, ("not", pick)))


class TheSame(unittest.TestCase):

    def answers(self, chart, pick):
        nesting = nesting_in(chart, pick)
        counts = sorted(nesting.count(index) for index in range(len(nesting)))
        return (len(pieces_in(chart, pick)), len(holes_in(chart, pick)), euler_in(chart, pick), counts,
                is_open_in(chart, pick),
                is_closed_in(chart, pick), is_bounded_in(chart, pick), word_in(chart, "A", "B"),
                meetings_in(chart, "A", "B"))

    def test_numbered_anew_and_turned(self):
        chance = random.Random(93)
        for chart in ALL + (TARGET,) + tuple(some_maps(94, 60, 10)):
            pick = repick.some_pick(chance, chance.randrange(1, 5))
            numbers = any_numbers(chance, chart)
            for seen in (chart, mirrored(chart)):
                other = renamed(seen, numbers)
                self.assertEqual(self.answers(other, pick), self.answers(chart, pick))
                for function in (pieces_in, holes_in):
                    led = {frozenset(led_cell(numbers, cell) for cell in piece) for piece in function(chart, pick)}
                    self.assertEqual({frozenset(piece) for piece in function(other, pick)}, led)

    def test_for_the_least_map_and_all_on_the_way(self):
        chance = random.Random(95)
        for chart in some_maps(96, 120, 14, (NONE, NONE, A, B)):
            pick = repick.some_pick(chance, chance.randrange(1, 5), "AB")
            told = self.answers(chart, pick)
            self.assertEqual(self.answers(least(chart), pick), told)
            other = chart
            for _ in range(3):
                if steps(other):
                    other = taken(other, chance.choice(steps(other)))
                    self.assertEqual(self.answers(other, pick), told)


if __name__ == "__main__":
    unittest.main()
