"""A console: lines said to a desk, answered one behind the other."""

from bentalike.desks import Desk
from bentalike.errors import InvalidLines
from bentalike.kinds import is_row

MOST_LINES = 200


def run(lines):
    """The answers to the lines, which are said to a fresh desk."""
    if not is_row(lines, 0, MOST_LINES):
        raise InvalidLines(None)
    for index, line in enumerate(lines):
        if not isinstance(line, str):
            raise InvalidLines(index)
    desk = Desk()
    return tuple([desk.answer(line) for line in lines])
