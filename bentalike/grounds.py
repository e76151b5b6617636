"""The map of a scene's plan with its drawing: in which cells points are, and points of cells."""

from bentalike.inside import cell_with, place_in
from bentalike.planning import chart_on
from bentalike.scenes import board_of, labels_on
from bentalike.webs import Web

# The kinds of cells of a drawing as those of its map.
MAP_KINDS = {"vertex": "special", "edge": "arc", "face": "face"}
DRAWN_KINDS = {"special": "vertex", "arc": "edge", "face": "face"}


class Ground:
    """A scene's drawing and the cells of the map of its plan, told by their numbers in the web."""

    def __init__(self, scene):
        self.board = board_of(scene, ())
        self.web = Web(chart_on(self.board, labels_on(scene, self.board)))

    def number_at(self, point):
        """The cell in which a point is."""
        kind, index = cell_with(self.board, point)
        return self.web.numbers[MAP_KINDS[kind], index]

    def point_at(self, number):
        """A point of a cell."""
        kind, index = self.web.cells[number]
        return place_in(self.board, (DRAWN_KINDS[kind], index))
