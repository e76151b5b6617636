"""Points and segments of the plane, without checks of what is passed."""

from bentalike.ratios import along, crossed, is_ahead, scaled, sign, unscaled


def side_of(first, second, third):
    """The turn of three points."""
    return sign(along(crossed(scaled(first), scaled(second)), scaled(third)))


def in_order(segment):
    """The two ends, ascending."""
    first, second = segment
    return (second, first) if is_ahead(second, first) else (first, second)


def lies_on(segment, point):
    if side_of(segment[0], segment[1], point) != 0:
        return False
    low, high = in_order(segment)
    return not is_ahead(point, low) and not is_ahead(high, point)


def overlap(segment, other):
    """What two segments of one line have in common."""
    low, high = in_order(segment)
    other_low, other_high = in_order(other)
    if is_ahead(low, other_low):
        low = other_low
    if is_ahead(other_high, high):
        high = other_high
    if low == high:
        return (low,)
    return (low, high) if is_ahead(low, high) else ()


def meet(segment, other):
    """What two segments have in common: () or (P,) or (P, Q), ascending."""
    line = crossed(scaled(segment[0]), scaled(segment[1]))
    other_line = crossed(scaled(other[0]), scaled(other[1]))
    sides = [sign(along(line, scaled(end))) for end in other]
    if sides == [0, 0]:
        return overlap(segment, other)
    other_sides = [sign(along(other_line, scaled(end))) for end in segment]
    # Of unlike lines: each segment has to reach the other one's line.
    if sides[0] * sides[1] > 0 or other_sides[0] * other_sides[1] > 0:
        return ()
    return (unscaled(crossed(line, other_line)),)


def heading(start, goal):
    """The direction from a scaled point to another one, as whole numbers (dx, dy)."""
    return goal[0] * start[2] - start[0] * goal[2], goal[1] * start[2] - start[1] * goal[2]


def is_lower_half(direction):
    """Whether a direction lies half a turn or more from straight right, counterclockwise."""
    return direction[1] < 0 or (direction[1] == 0 and direction[0] < 0)


def is_turned_less(first, second):
    """Whether the first (direction, ..) comes ahead of the second one, counterclockwise."""
    (x, y), (other_x, other_y) = first[0], second[0]
    lower, other_lower = is_lower_half(first[0]), is_lower_half(second[0])
    if lower != other_lower:
        return other_lower
    return x * other_y - y * other_x > 0
