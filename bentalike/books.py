"""Books: scenes that change, with the states ahead and behind."""

from bentalike.checks import check_scene
from bentalike.doing import scene_behind
from bentalike.errors import InvalidBook, InvalidDeed, NothingToRedo, NothingToUndo
from bentalike.pages import is_book_form, new_book, turned_back, turned_on, turned_over_to


def is_book(value):
    """Whether value, whatever it is, is a book."""
    return is_book_form(value)


def check_book(value):
    if not is_book_form(value):
        raise InvalidBook(value)


def fresh_book(scene):
    """The book of the scene without earlier and later states."""
    check_scene(scene)
    return new_book(scene)


def changed(book, deed):
    """The book behind a change by the deed."""
    check_book(book)
    behind = scene_behind(book[0][0], deed)
    if behind is None:
        raise InvalidDeed(deed)
    return turned_over_to(book, behind)


def undone(book):
    """The book with the last change undone."""
    check_book(book)
    if not book[1]:
        raise NothingToUndo()
    return turned_back(book)


def done_again(book):
    """The book with what was undone last done again."""
    check_book(book)
    if not book[2]:
        raise NothingToRedo()
    return turned_on(book)
