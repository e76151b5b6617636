"""Renamings of maps to one another, and which scenes a bending leads to one another."""

from bentalike.checks import check_map, check_scene, check_side
from bentalike.coding import Coded, code_of, many_onto_itself, turned_code_of
from bentalike.flipping import turned_over
from bentalike.matching import does_rename, matched
from bentalike.planning import plan_in
from bentalike.sheets import least_of


def seen_from(chart, side):
    """The map as it is seen from the side told: what turns sides to a map keeps them to the map turned."""
    return turned_over(chart) if side == "turns" else chart


def is_renaming(chart, other, side, value):
    """Whether value, whatever it is, is a renaming of chart to other that keeps, or turns, sides."""
    check_map(chart)
    check_map(other)
    check_side(side)
    return does_rename(chart, seen_from(other, side), value)


def renaming(chart, other, side):
    """A renaming of chart to other that keeps, or turns, sides; None if there is none."""
    check_map(chart)
    check_map(other)
    check_side(side)
    return matched(Coded(chart), Coded(seen_from(other, side)))


def many_renamings(chart, other, side):
    """How many renamings of chart to other keep, or turn, sides."""
    check_map(chart)
    check_map(other)
    check_side(side)
    coded = Coded(chart)
    if coded.faces[0] != code_of(seen_from(other, side)):
        return 0
    return many_onto_itself(coded)


def alike(scene, other):
    """Whether there is a bending that keeps sides, and whether there is one that turns them."""
    check_scene(scene)
    check_scene(other)
    charts = [least_of(plan_in(each)[0]) for each in (scene, other)]
    text = code_of(charts[0])
    return text == code_of(charts[1]), text == turned_code_of(charts[1])
