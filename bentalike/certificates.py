"""Certificates: claims that are so, with papers that the checker accepts."""

from bentalike.answers import thirds_of
from bentalike.checks import (
    check_map, check_name, check_pick, check_point, check_scene, check_side, check_text
)
from bentalike.coding import Coded
from bentalike.errors import BadText, InvalidMap, InvalidPoint
from bentalike.flipping import seen_from
from bentalike.grounds import Ground
from bentalike.matching import matched
from bentalike.planning import plan_in
from bentalike.plans import drawn
from bentalike.reader import read_scene
from bentalike.sheets import steps_of, taken_down
from bentalike.ways import cells_ahead, way_to
from bentalike.webs import told_cells, truths_in


def certify_least(chart):
    """The claim "least" of the map, with its paper."""
    check_map(chart)
    steps, left = taken_down(chart)
    return ("least", chart, left), (steps, same_numbers(left))


def same_numbers(chart):
    """The renaming of the map to itself by which all numbers stay."""
    counts = (len(chart[0]), 2 * len(chart[1]), len(chart[3]), len(chart[4]))
    return tuple([tuple(range(many)) for many in counts])


def certify_bent(scene, other, side):
    """The claim "bent" or "not bent" of both scenes, with its paper."""
    check_scene(scene)
    check_scene(other)
    check_side(side)
    steps, left = taken_down(plan_in(scene)[0])
    others, goal = taken_down(plan_in(other)[0])
    renaming = matched(Coded(left), Coded(seen_from(goal, side)))
    if renaming is None:
        return ("not bent", scene, other, side), ()
    return ("bent", scene, other, side), (steps, renaming, others)


def certify_drawn(chart):
    """The claim "drawn" of the least map and a plan, with its paper."""
    check_map(chart)
    if steps_of(chart):
        raise InvalidMap(chart)
    plan = drawn(chart)
    steps, left = taken_down(plan[0])
    return ("drawn", chart, plan), (steps, matched(Coded(left), Coded(chart)))


def certify_meetings(scene, name, other):
    """The claim "meetings" of both sets, with its paper."""
    check_scene(scene)
    check_name(name)
    check_name(other)
    ground = Ground(scene)
    others = thirds_of(ground.web, other)
    points = tuple([point_in_both(ground, own, each) for own in thirds_of(ground.web, name) for each in others])
    return ("meetings", scene, name, other, tuple([point is not None for point in points])), points


def point_in_both(ground, truths, others):
    """A point of a cell that is in both; None if there is none."""
    for number, truth in enumerate(truths):
        if truth and others[number]:
            return ground.point_at(number)
    return None


def certify_joined(scene, pick, point, other):
    """The claim "joined" or "parted" of both points, with its paper."""
    check_scene(scene)
    check_pick(pick)
    check_point(point)
    check_point(other)
    ground = Ground(scene)
    truths = truths_in(ground.web, pick)
    numbers = []
    for place in (point, other):
        number = ground.number_at(place)
        if not truths[number]:
            raise InvalidPoint(place)
        numbers.append(number)
    ahead = cells_ahead(ground.web, truths, numbers[0])
    if numbers[1] in ahead:
        return ("joined", scene, pick, point, other), told_cells(ground.web, way_to(ahead, numbers[1]))
    return ("parted", scene, pick, point, other), told_cells(ground.web, sorted(ahead))


def certify_read(text):
    """The claim "reads" or "reads not" of the text, with its paper."""
    check_text(text)
    try:
        scene = read_scene(text)
    except BadText as error:
        return ("reads not", text, error.spot), ()
    return ("reads", text, scene), ()
