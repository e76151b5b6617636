"""Triangles all round drawn straight on points of whole numbers (de Fraysseix, Pach, Pollack 1990)."""


def placed_on_grid(triangles, left, right, top):
    """Points, pairs of whole numbers, for the corners of triangles that fill the plane, one of them the outer one.

    Triangles are told counterclockwise, two corners joined in two of them. Left, right, top are the corners
    of the outer one as they come counterclockwise round all others.
    """
    return spread_out(Shelling(triangles, left, right, top).shelled(), left, right)


class Shelling:
    """What is left of triangles while corners are taken away from above, so that what is left has no gaps."""

    def __init__(self, triangles, left, right, top):
        # Round the first of a pair of neighbours, the one that comes counterclockwise behind the second.
        self.after = {}
        self.near = {}
        for triangle in triangles:
            for at, corner in enumerate(triangle):
                self.after[corner, triangle[at - 2]] = triangle[at - 1]
                self.near.setdefault(corner, []).append(triangle[at - 2])
        self.left = left
        self.right = right
        self.top = top
        # The upper rim from left to right, and how many neighbours each corner has on it.
        self.ahead = {}
        self.behind = {}
        self.touching = {corner: 0 for corner in self.near}
        for corner in (left, top, right):
            self.touch(corner, 1)
        self.link([left, top, right])

    def touch(self, corner, change):
        for other in self.near[corner]:
            self.touching[other] += change

    def link(self, row):
        """Let these corners follow one another on the upper rim."""
        for at in range(len(row) - 1):
            self.behind[row[at]] = row[at + 1]
            self.ahead[row[at + 1]] = row[at]

    def is_free(self, corner):
        """Whether a corner is on the rim between its ends, joined to no others there than those beside it."""
        return corner in self.ahead and corner in self.behind and self.touching[corner] == 2

    def shelled(self):
        """The pairs of a corner and the row of those it is put on from above, from below to the top."""
        found = []
        waiting = [self.top]
        while waiting:
            corner = waiting.pop()
            if self.is_free(corner):
                row = self.taken_away(corner)
                found.append((corner, row))
                waiting.extend(row)
        return found[::-1]

    def taken_away(self, corner):
        """Take a corner off the rim: the row of those that come to light, from the one ahead to the one behind."""
        last = self.behind.pop(corner)
        row = [self.ahead.pop(corner)]
        while row[-1] != last:
            row.append(self.after[corner, row[-1]])
        self.touch(corner, -1)
        for other in row[1:-1]:
            self.touch(other, 1)
        self.link(row)
        return row


def spread_out(rows, left, right):
    """Points for corners that are put on one behind the other, what is below them moved apart (Chrobak, Payne)."""
    # x is told as the distance from the corner under which a corner hangs, so that all below moves with it.
    steps = {left: 0, right: 0}
    heights = {left: 0, right: 0}
    low_side = {}
    high_side = {left: right}
    for corner, row in rows:
        first, last = row[0], row[-1]
        steps[row[1]] += 1
        steps[last] += 1
        width = sum([steps[other] for other in row[1:]])
        step = (width + heights[last] - heights[first]) // 2
        heights[corner] = (width + heights[last] + heights[first]) // 2
        steps[corner] = step
        steps[last] = width - step
        high_side[first] = corner
        high_side[corner] = last
        if len(row) > 2:
            steps[row[1]] -= step
            low_side[corner] = row[1]
            high_side.pop(row[-2])
    return summed_up(left, steps, heights, low_side, high_side)


def summed_up(left, steps, heights, low_side, high_side):
    points = {}
    waiting = [(left, 0)]
    while waiting:
        corner, start = waiting.pop()
        x = start + steps[corner]
        points[corner] = x, heights[corner]
        for side in (low_side, high_side):
            if corner in side:
                waiting.append((side[corner], x))
    return points
