import random
import unittest

from charts import A, ALL, NONE
from growing import some_maps
from bentalike.maps import is_map
from bentalike.needless import is_least, steps, taken
from bentalike.sheets import taken_down, walked

MAPS = ALL + tuple(some_maps(421, 120, 22)) + tuple(some_maps(422, 120, 25, (NONE, NONE, A))) + tuple(
    some_maps(423, 60, 25, (NONE,)))


class Walked(unittest.TestCase):

    def test_steps_one_behind_the_other_are_those_of_the_maps_that_are_taken(self):
        chance = random.Random(424)
        for chart in MAPS:
            row, left = [], chart
            while steps(left):
                row.append(chance.choice(steps(left)))
                left = taken(left, row[-1])
                self.assertEqual(walked(chart, row), left)

    def test_what_is_no_step_of_the_map_ahead(self):
        chance = random.Random(425)
        for chart in MAPS[::2]:
            row, left = [], chart
            while steps(left) and chance.random() < 0.8:
                row.append(chance.choice(steps(left)))
                left = taken(left, row[-1])
            for word in ("arc", "pass", "ring", "spot"):
                for index in range(max(len(part) for part in left) + 2):
                    told = walked(chart, row + [(word, index)])
                    self.assertIs(told is None, (word, index) not in steps(left))

    def test_steps_down_lead_to_a_least_map(self):
        for chart in MAPS:
            row, left = taken_down(chart)
            self.assertEqual(walked(chart, row), left)
            self.assertIs(is_map(left) and is_least(left), True)
            for step in row:
                self.assertIn(step, steps(chart))
                chart = taken(chart, step)
            self.assertEqual(chart, left)


if __name__ == "__main__":
    unittest.main()
