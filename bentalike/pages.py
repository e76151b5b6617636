"""Books of scenes that change, without checks of the books that are passed.

A book is (STATE, EARLIER, LATER), a state a pair of a scene and the code of its least map.
"""

from bentalike.coding import code_of
from bentalike.kinds import is_row
from bentalike.planning import least_in
from bentalike.scenes import is_scene

MOST_STATES = 20


def state_of(scene):
    return scene, code_of(least_in(scene))


def new_book(scene):
    return state_of(scene), (), ()


def is_state(value):
    return is_row(value, 2, 2) and is_scene(value[0]) and value == state_of(value[0])


def is_book_form(value):
    """Whether value, whatever it is, is a book."""
    if not is_row(value, 3, 3) or not all(is_row(row, 0, MOST_STATES) for row in value[1:]):
        return False
    return all(is_state(state) for state in (value[0],) + value[1] + value[2])


def turned_over_to(book, scene):
    """The book with a change to this scene."""
    state, earlier, _ = book
    return state_of(scene), latest(earlier + (state,)), ()


def turned_back(book):
    """The book undone, of which there are earlier states."""
    state, earlier, later = book
    return earlier[-1], earlier[:-1], ((state,) + later)[:MOST_STATES]


def turned_on(book):
    """The book done again, of which there are later states."""
    state, earlier, later = book
    return later[0], latest(earlier + (state,)), later[1:]


def latest(states):
    """The last ones of the states, no more than may be kept."""
    return states[-MOST_STATES:]
