"""A place within each cell of a board, and the cell in which a place is."""

from bentalike.board import Board
from bentalike.ordering import sorted_by
from bentalike.plane import lies_on
from bentalike.ratios import crossed, fraction, half, is_less, plus, scaled


def place_in(board, cell):
    """A place of a cell: for a vertex itself, for an edge its middle."""
    kind, index = cell
    if kind == "vertex":
        return board.vertices[index]
    if kind == "edge":
        return middle_of(board, index)
    if index == 0:
        return place_outside(board)
    return place_over(board, middle_of(board, lower_edge(board, index)))


def middle_of(board, edge):
    low, high = board.edges[edge]
    (x, y), (other_x, other_y) = board.vertices[low], board.vertices[high]
    return half(plus(x, other_x)), half(plus(y, other_y))


def place_outside(board):
    """A place to the right of all vertices."""
    if not board.vertices:
        return (0, 1), (0, 1)
    return plus(board.vertices[-1][0], (1, 1)), (0, 1)


def lower_edge(board, face):
    """An edge, not upright, straight above which a face with an own walk lies."""
    # Such a walk goes round something, so it goes to the right somewhere; a dart from the lesser vertex
    # to the greater one does, if the edge is not upright, and has the face on its left.
    own = board.faces[face][0][0]
    ends = [(dart // 2, board.edges[dart // 2]) for dart in own if dart & 1 == 0]
    return [edge for edge, (low, high) in ends if board.vertices[low][0] != board.vertices[high][0]][0]


def place_over(board, place):
    """The place half way from here to what is next straight above."""
    x, y = place
    heights = [vertex[1] for vertex in board.vertices if vertex[0] == x]
    for low, high in board.edges:
        start, goal = board.vertices[low], board.vertices[high]
        if is_less(start[0], x) and is_less(x, goal[0]):
            heights.append(height_at(start, goal, x))
    above = sorted_by([height for height in heights if is_less(y, height)], is_less)
    return x, half(plus(y, above[0]))


def height_at(start, goal, x):
    """The y of the line through two points at x."""
    a, b, c = crossed(scaled(start), scaled(goal))
    return fraction(-a * x[0] - c * x[1], b * x[1])


def cell_with(board, place):
    """The cell of the board in which a place is."""
    if place in board.vertices:
        return "vertex", board.vertices.index(place)
    for edge, (low, high) in enumerate(board.edges):
        if lies_on((board.vertices[low], board.vertices[high]), place):
            return "edge", edge
    # A lone point in a face changes the numbers of vertices alone: edges and faces keep their order.
    closer = Board(board.segments, board.points + (place,))
    return "face", closer.faces_at[closer.vertices.index(place)][0]
