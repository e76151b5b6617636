import random
import unittest
from fractions import Fraction
from itertools import product

import oracle
from helpers import at, line, number
from bentalike.points import common, in_turn, is_on, is_point, turn_of

GREAT = 10 ** 400
NO_NUMBERS = (
    0, 1, None, "1", (), (1,), (1, 1, 1), [0, 1], (True, 1), (1, True), (False, 1), (0, False),
    (0, 0), (1, 0), (1, -1), (0, -1), (-1, -2), (0, 2), (2, 2), (2, 4), (-2, 4), ("0", 1), (0, "1"),
    ((0, 1), 1), (None, 1), (GREAT, 2), (2, GREAT), {0: 1},
)


class IsPoint(unittest.TestCase):

    def test_pairs_of_fractions_are_points(self):
        for x, y in product((0, 1, -1, Fraction(1, 2), Fraction(-7, 3), GREAT, Fraction(1, GREAT)), repeat=2):
            self.assertIs(is_point(at(x, y)), True)

    def test_a_number_that_is_no_fraction_makes_no_point(self):
        for wrong in NO_NUMBERS:
            self.assertIs(is_point((wrong, (0, 1))), False, wrong)
            self.assertIs(is_point(((0, 1), wrong)), False, wrong)

    def test_other_values_are_no_points(self):
        good = (0, 1)
        for wrong in (None, True, 0, "", "ab", b"ab", (), (good,), (good, good, good), [good, good],
                      {0: good, 1: good}, {good}, object(), is_point, (0, 1), (0, 0, 0, 0)):
            self.assertIs(is_point(wrong), False)

    def test_the_document_names_its_parameter(self):
        self.assertIs(is_point(value=at(1, 2)), True)


class TurnOf(unittest.TestCase):

    def test_left_is_1_on_the_line_is_0_right_is_less(self):
        self.assertEqual(turn_of(at(0, 0), at(1, 0), at(5, 1)), 1)
        self.assertEqual(turn_of(at(0, 0), at(1, 0), at(-5, 0)), 0)
        self.assertEqual(turn_of(at(0, 0), at(1, 0), at(5, -1)), -1)

    def test_points_that_are_alike_lie_on_one_line(self):
        for place in (at(0, 0), at(3, 4), at(-1, 7)):
            self.assertEqual(turn_of(at(3, 4), at(3, 4), place), 0)
            self.assertEqual(turn_of(at(3, 4), place, at(3, 4)), 0)
            self.assertEqual(turn_of(place, at(3, 4), at(3, 4)), 0)

    def test_it_is_not_rounded(self):
        place = at(1, 1 + Fraction(1, GREAT))
        self.assertEqual(turn_of(at(0, 0), at(GREAT, GREAT), place), 1)
        self.assertEqual(turn_of(at(GREAT, GREAT), at(0, 0), place), -1)
        self.assertEqual(turn_of(at(0, 0), at(GREAT, GREAT), at(1, 1)), 0)

    def test_as_the_document_computes_it(self):
        chance = random.Random(1)
        for _ in range(400):
            places = [(Fraction(chance.randrange(-9, 10), chance.randrange(1, 5)),
                       Fraction(chance.randrange(-9, 10), chance.randrange(1, 5))) for _ in range(3)]
            self.assertEqual(turn_of(*[at(*place) for place in places]), oracle.turn(*places))


class IsOn(unittest.TestCase):

    def test_ends_and_places_between(self):
        for x in (0, 1, 2, 3, Fraction(1, 7), Fraction(59, 20)):
            self.assertIs(is_on(line(0, 0, 3, 6), at(x, 2 * x)), True)
            self.assertIs(is_on(line(3, 6, 0, 0), at(x, 2 * x)), True)

    def test_upright_ones(self):
        for y, told in ((-1, False), (0, True), (1, True), (2, True), (Fraction(201, 100), False)):
            self.assertIs(is_on(line(1, 2, 1, 0), at(1, y)), told)

    def test_places_on_the_line_beyond_the_ends(self):
        for x in (-1, 4, Fraction(-1, 1000), 3 + Fraction(1, GREAT)):
            self.assertIs(is_on(line(0, 0, 3, 6), at(x, 2 * x)), False)

    def test_places_beside_the_line(self):
        self.assertIs(is_on(line(0, 0, 3, 6), at(1, 2 + Fraction(1, GREAT))), False)
        self.assertIs(is_on(line(0, 0, 3, 0), at(1, Fraction(-1, GREAT))), False)


class Common(unittest.TestCase):

    def check(self, first, second, told):
        for one, other in ((first, second), (second, first)):
            for start in (one, one[::-1]):
                for goal in (other, other[::-1]):
                    self.assertEqual(common(start, goal), told)

    def test_segments_apart(self):
        self.check(line(0, 0, 2, 0), line(0, 2, 2, 2), ())
        self.check(line(0, 0, 2, 0), line(3, 1, 3, -1), ())
        self.check(line(0, 0, 2, 0), line(1, 1, 1, 2), ())

    def test_a_crossing(self):
        self.check(line(0, 0, 2, 2), line(0, 2, 2, 0), (at(1, 1),))
        self.check(line(0, 0, 3, 1), line(1, 1, 1, -1), (at(1, Fraction(1, 3)),))
        self.check(line(-1, -1, -3, -2), line(-2, -1, -2, -9), (at(-2, Fraction(-3, 2)),))

    def test_an_end_in_common(self):
        self.check(line(0, 0, 2, 0), line(2, 0, 2, 2), (at(2, 0),))

    def test_an_end_on_the_other_segment(self):
        self.check(line(0, 0, 2, 0), line(1, 0, 1, 5), (at(1, 0),))

    def test_on_one_line_apart(self):
        self.check(line(0, 0, 1, 1), line(2, 2, 3, 3), ())
        self.check(line(0, 0, 0, 1), line(0, 2, 0, 3), ())

    def test_on_one_line_touching(self):
        self.check(line(0, 0, 1, 1), line(1, 1, 3, 3), (at(1, 1),))
        self.check(line(0, 0, 0, -1), line(0, 0, 0, 3), (at(0, 0),))

    def test_on_one_line_overlapping(self):
        self.check(line(0, 0, 3, 0), line(1, 0, 4, 0), (at(1, 0), at(3, 0)))
        self.check(line(0, 0, 0, 3), line(0, 1, 0, 4), (at(0, 1), at(0, 3)))

    def test_on_one_line_one_in_the_other(self):
        self.check(line(0, 0, 4, 8), line(1, 2, 2, 4), (at(1, 2), at(2, 4)))
        self.check(line(0, 0, 4, 8), line(0, 0, 2, 4), (at(0, 0), at(2, 4)))

    def test_alike(self):
        self.check(line(4, 8, 0, 0), line(0, 0, 4, 8), (at(0, 0), at(4, 8)))

    def test_lines_side_by_side(self):
        self.check(line(0, 0, 4, 4), line(0, 1, 4, 5), ())

    def test_great_numbers_are_not_rounded(self):
        tiny = Fraction(1, GREAT)
        self.check(line(0, 0, GREAT, 0), line(1, tiny, 1, 2), ())
        self.check(line(0, 0, GREAT, 1), line(1, 0, 1, 1), (at(1, tiny),))
        self.check(line(0, 0, 1 + tiny, 0), line(1, 0, 2, 0), (at(1, 0), at(1 + tiny, 0)))

    def test_as_the_oracle_tells(self):
        chance = random.Random(2)
        told = {0: 0, 1: 0, 2: 0}
        for _ in range(6000):
            ends = [(Fraction(chance.randrange(5)), Fraction(chance.randrange(5))) for _ in range(4)]
            if ends[0] != ends[1] and ends[2] != ends[3]:
                places = oracle.common(ends[:2], ends[2:])
                told[len(places)] += 1
                given = [at(*end) for end in ends]
                self.assertEqual(common(tuple(given[:2]), tuple(given[2:])), tuple(at(*place) for place in places))
        self.assertGreater(min(told.values()), 50)


class InTurn(unittest.TestCase):

    def test_counterclockwise_from_straight_right(self):
        around = [(3, 0), (3, 1), (1, 1), (1, 3), (0, 5), (-1, 3), (-1, 1), (-3, 1),
                  (-2, 0), (-3, -1), (-1, -1), (-1, -3), (0, -1), (1, -3), (1, -1), (3, -1)]
        for seed in range(30):
            order = list(range(len(around)))
            random.Random(seed).shuffle(order)
            points = tuple(at(7 + around[index][0], around[index][1] - 4) for index in order)
            told = in_turn(at(7, -4), points)
            self.assertEqual([order[index] for index in told], list(range(len(around))))

    def test_those_of_one_direction_by_their_indexes(self):
        points = (at(4, 0), at(0, 2), at(1, 0), at(0, 1), at(-1, 0), at(2, 0), at(-5, 0), at(0, 2), at(0, -1))
        self.assertEqual(in_turn(at(0, 0), points), (0, 2, 5, 1, 3, 7, 4, 6, 8))

    def test_no_points(self):
        self.assertEqual(in_turn(at(0, 0), ()), ())

    def test_small_and_great_ones(self):
        points = (at(GREAT, 1), at(1, 0), at(1, Fraction(1, GREAT)), at(GREAT, -1), at(GREAT, Fraction(1, GREAT)))
        self.assertEqual(in_turn(at(0, 0), points), (1, 4, 0, 2, 3))

    def test_rows_of_24(self):
        points = tuple(at(1, y) for y in range(24, 0, -1))
        self.assertEqual(in_turn(at(0, 0), points), tuple(range(23, -1, -1)))

    def test_parts_of_numbers(self):
        start = at(Fraction(1, 2), Fraction(-1, 3))
        points = (at(Fraction(1, 2), 0), at(0, Fraction(-1, 3)), at(1, Fraction(-1, 3)), at(Fraction(1, 2), -1))
        self.assertEqual(in_turn(start, points), (2, 0, 1, 3))

    def test_numbers_are_told_as_the_document_writes_them(self):
        self.assertEqual(number(Fraction(-4, 6)), (-2, 3))


if __name__ == "__main__":
    unittest.main()
