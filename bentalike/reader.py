"""Figures, scenes, picks from the texts that tell them."""

from bentalike.checks import check_text
from bentalike.reading import Reader


def read_figure(text):
    """The figure that the text tells."""
    check_text(text)
    reader = Reader(text, False)
    figure = reader.read_bounded()
    reader.finish()
    return figure


def read_scene(text):
    """The scene that the statements of the text tell."""
    check_text(text)
    reader = Reader(text, False)
    while reader.next_kind() != "end":
        reader.read_statement()
        reader.take(";")
    reader.finish()
    return tuple([(name, reader.named_figures[name]) for name in sorted(reader.named_figures)])


def read_pick(text):
    """The pick that the text tells."""
    check_text(text)
    reader = Reader(text, True)
    pick = reader.read_whole()
    reader.finish()
    return pick
