import random
import unittest

from bentalike.grids import placed_on_grid


def some_triangles(chance, many):
    """So many corners joined to triangles all round: by putting corners in, and by turning edges within quadrangles."""
    triangles = [(0, 1, 2), (0, 2, 1)]
    for corner in range(3, many):
        a, b, c = triangles.pop(chance.randrange(len(triangles)))
        triangles += [(a, b, corner), (b, c, corner), (c, a, corner)]
        for _ in range(3):
            triangles = turned_edge(chance, triangles)
    return triangles


def turned_edge(chance, triangles):
    """The triangles with one edge between two of them replaced by the other one that fits there, if it is new."""
    third = {}
    for triangle in triangles:
        for at in range(3):
            third[triangle[at - 2], triangle[at - 1]] = triangle[at]
    start, goal = chance.choice(sorted(third))
    left, right = third[start, goal], third[goal, start]
    if (left, right) in third or left == right:
        return triangles
    rest = [triangle for triangle in triangles if not {start, goal} <= set(triangle)]
    return rest + [(start, right, left), (goal, left, right)]


def area(points, triangle):
    (x, y), (next_x, next_y), (last_x, last_y) = [points[corner] for corner in triangle]
    return (next_x - x) * (last_y - y) - (next_y - y) * (last_x - x)


class Triangles(unittest.TestCase):

    def check_drawn(self, triangles, outer):
        points = placed_on_grid(triangles, outer[1], outer[0], outer[2])
        many = len(points)
        self.assertEqual(set(points), {corner for triangle in triangles for corner in triangle})
        # The outer triangle is told as seen from outside; all others go counterclockwise: so nothing crosses.
        for triangle in triangles:
            self.assertIs(area(points, triangle) > 0, triangle != outer, triangle)
        self.assertEqual([points[outer[1]], points[outer[0]], points[outer[2]]],
                         [(0, 0), (2 * many - 4, 0), (many - 2, many - 2)])
        for x, y in points.values():
            self.assertTrue(isinstance(x, int) and isinstance(y, int) and 0 <= x <= 2 * many - 4 and 0 <= y <= many - 2)

    def test_few_corners_with_each_triangle_outside(self):
        chance = random.Random(121)
        for many in range(3, 12):
            for _ in range(6):
                triangles = some_triangles(chance, many)
                for outer in triangles:
                    self.check_drawn(triangles, outer)
                    self.check_drawn(triangles[::-1], outer)

    def test_with_each_corner_of_the_outer_one_at_the_top(self):
        chance = random.Random(122)
        for many in (4, 9, 30):
            triangles = some_triangles(chance, many)
            for a, b, c in triangles:
                for outer in ((a, b, c), (b, c, a), (c, a, b)):
                    self.check_drawn([triangle if set(triangle) != {a, b, c} else outer for triangle in triangles], outer)

    def test_many_corners(self):
        chance = random.Random(123)
        for many in (50, 200, 700):
            triangles = some_triangles(chance, many)
            self.check_drawn(triangles, chance.choice(triangles))

    def test_one_corner_joined_to_all(self):
        for many in (3, 4, 40):
            rim = list(range(many))
            triangles = [(rim[at - 1], rim[at], "middle") for at in rim] + [(rim[at], rim[at - 1], "back") for at in rim]
            for outer in triangles:
                self.check_drawn(triangles, outer)


if __name__ == "__main__":
    unittest.main()
