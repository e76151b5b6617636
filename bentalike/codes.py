"""Codes of maps: texts that two maps have in common exactly if they are one but for numbering."""

from bentalike.checks import check_map
from bentalike.coding import code_of, turned_code_of
from bentalike.decoding import decoded
from bentalike.errors import InvalidCode


def code(chart):
    """The code of the map."""
    check_map(chart)
    return code_of(chart)


def turned_code(chart):
    """The code of the map turned."""
    check_map(chart)
    return turned_code_of(chart)


def is_code(value):
    """Whether value, whatever it is, is the code of a map."""
    try:
        decoded(value)
    except InvalidCode:
        return False
    return True


def map_of(code):
    """A map with this code."""
    return decoded(code)
