"""Picks: cells of maps, told by names and words."""

from bentalike.checks import check_map, check_pick
from bentalike.errors import InvalidCell
from bentalike.forms import is_pick_form
from bentalike.webs import Web, told_cells, truths_in


def is_pick(value):
    """Whether value, whatever it is, is a pick."""
    return is_pick_form(value)


def map_cells(chart):
    """All cells of the map, ascending."""
    check_map(chart)
    return Web(chart).cells


def check_cell(value, web):
    if not web.has_cell(value):
        raise InvalidCell(value)


def does_rim(chart, cell, other):
    """Whether the cell rims the other one."""
    check_map(chart)
    web = Web(chart)
    check_cell(cell, web)
    check_cell(other, web)
    return web.numbers[other] in web.rims[web.numbers[cell]]


def cells_in(chart, pick):
    """The cells of the pick in the map, ascending."""
    check_map(chart)
    check_pick(pick)
    web = Web(chart)
    return told_cells(web, [cell for cell, truth in enumerate(truths_in(web, pick)) if truth])
