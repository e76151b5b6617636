"""Renamings of maps to one another, and which scenes a bending leads to one another."""

from bentalike.checks import check_map, check_scene, check_side
from bentalike.coding import Coded, code_of, many_onto_itself, turned_code_of
from bentalike.flipping import seen_from
from bentalike.matching import does_rename, matched
from bentalike.planning import least_in


def is_renaming(chart, other, side, value):
    """Whether value, whatever it is, is a renaming of chart to other that keeps, or turns, sides."""
    check_map(chart)
    check_map(other)
    check_side(side)
    return does_rename(chart, seen_from(other, side), value)


def renaming(chart, other, side):
    """A renaming of chart to other that keeps, or turns, sides; None if there is none."""
    check_map(chart)
    check_map(other)
    check_side(side)
    return matched(Coded(chart), Coded(seen_from(other, side)))


def many_renamings(chart, other, side):
    """How many renamings of chart to other keep, or turn, sides."""
    check_map(chart)
    check_map(other)
    check_side(side)
    coded = Coded(chart)
    if coded.faces[0] != code_of(seen_from(other, side)):
        return 0
    return many_onto_itself(coded)


def alike(scene, other):
    """Whether there is a bending that keeps sides, and whether there is one that turns them."""
    check_scene(scene)
    check_scene(other)
    text, goal = code_of(least_in(scene)), least_in(other)
    return text == code_of(goal), text == turned_code_of(goal)
