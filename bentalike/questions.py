"""Questions that bending leaves, asked of maps: meetings, pieces, holes, nesting, Euler numbers."""

from bentalike.answers import euler_of, truths_of_meeting, word_for
from bentalike.checks import check_index, check_map, check_name, check_pick
from bentalike.webs import Web, closed, holes_of, innermost_of, opened, pieces_of, told_cells, truths_in


def told_in(chart, pick):
    """The cells of the map and which of them are in the pick, once both are what they have to be."""
    check_map(chart)
    check_pick(pick)
    web = Web(chart)
    return web, truths_in(web, pick)


def meetings_in(chart, name, other):
    """Nine truths: whether a cell is in inner, rim, outside of the first set and inner, rim, outside of the other."""
    check_map(chart)
    check_name(name)
    check_name(other)
    return truths_of_meeting(chart, name, other)


def word_in(chart, name, other):
    """The word for how the two sets meet."""
    check_map(chart)
    check_name(name)
    check_name(other)
    return word_for(chart, name, other)


def pieces_in(chart, pick):
    """The pieces of the pick, each the ascending tuple of its cells."""
    web, truths = told_in(chart, pick)
    return tuple([told_cells(web, piece) for piece in pieces_of(web, truths)])


def holes_in(chart, pick):
    """The holes of the cells of the pick: the bounded pieces of all other cells."""
    web, truths = told_in(chart, pick)
    return tuple([told_cells(web, piece) for piece in holes_of(web, truths)])


def surrounds(chart, pick, index, other):
    """Whether the piece with the first index surrounds the one with the other index."""
    web, truths = told_in(chart, pick)
    pieces = pieces_of(web, truths)
    check_index(index, len(pieces))
    check_index(other, len(pieces))
    own = [False for _ in web.cells]
    for cell in pieces[index]:
        own[cell] = True
    return any(pieces[other][0] in hole for hole in holes_of(web, own))


def nesting_in(chart, pick):
    """For each piece the index of the innermost one that surrounds it; None if none does."""
    web, truths = told_in(chart, pick)
    around = innermost_of(web, truths)
    indexes = {first: index for index, first in enumerate(around)}
    return tuple([None if around[first] is None else indexes[around[first]] for first in around])


def euler_in(chart, pick):
    """The Euler number of the cells of the pick."""
    check_map(chart)
    check_pick(pick)
    return euler_of(chart, pick)


def is_open_in(chart, pick):
    """Whether the pick is its own inner."""
    web, truths = told_in(chart, pick)
    return opened(web, truths) == truths


def is_closed_in(chart, pick):
    """Whether the pick is its own closure."""
    web, truths = told_in(chart, pick)
    return closed(web, truths) == truths


def is_bounded_in(chart, pick):
    """Whether the outer face is not in the pick."""
    web, truths = told_in(chart, pick)
    return not truths[web.outer]
