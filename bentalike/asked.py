"""Questions that bending leaves, asked of scenes."""

from bentalike.answers import euler_of, truths_of_meeting, word_for
from bentalike.checks import check_name, check_pick, check_point, check_scene
from bentalike.planning import chart_on, least_in
from bentalike.scenes import board_of, labels_on
from bentalike.webs import Web, holes_of, pieces_of, truths_in


def meetings(scene, name, other):
    """Nine truths: what inner, rim, outside of the first set have in common with those of the other one."""
    check_scene(scene)
    check_name(name)
    check_name(other)
    return truths_of_meeting(least_in(scene), name, other)


def word_of(scene, name, other):
    """The word for how the two sets meet."""
    check_scene(scene)
    check_name(name)
    check_name(other)
    return word_for(least_in(scene), name, other)


def pieces(scene, pick):
    """How many pieces the pick has."""
    check_scene(scene)
    check_pick(pick)
    web = Web(least_in(scene))
    return len(pieces_of(web, truths_in(web, pick)))


def holes(scene, pick):
    """How many holes the pick has."""
    check_scene(scene)
    check_pick(pick)
    web = Web(least_in(scene))
    return len(holes_of(web, truths_in(web, pick)))


def euler(scene, pick):
    """The Euler number of the pick."""
    check_scene(scene)
    check_pick(pick)
    return euler_of(least_in(scene), pick)


def are_joined(scene, pick, point, other):
    """Whether both points are in the pick, and in one piece of it."""
    check_scene(scene)
    check_pick(pick)
    check_point(point)
    check_point(other)
    # Points that are cut out as vertices of the drawing are cells by themselves.
    board = board_of(scene, (point, other))
    web = Web(chart_on(board, labels_on(scene, board)))
    cells = [web.numbers["special", board.vertices.index(place)] for place in (point, other)]
    return any(all(cell in piece for cell in cells) for piece in pieces_of(web, truths_in(web, pick)))
