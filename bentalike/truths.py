"""Which cells of a board a figure is the union of.

Truths are triples of lists: for each vertex, each edge, each face whether it is in the figure. The
segments and lone points of the figure have to be among those of the board.
"""

from bentalike.forms import PAIRED, lines_of_basic


def truths_of(figure, board):
    kind = figure[0]
    if kind in PAIRED:
        return joined(kind, truths_of(figure[1], board), truths_of(figure[2], board))
    if kind == "closure":
        return closed(truths_of(figure[1], board), board)
    if kind == "inner":
        return opened(truths_of(figure[1], board), board)
    if kind == "rim":
        own = truths_of(figure[1], board)
        return joined("less", closed(own, board), opened(own, board))
    if kind == "spot":
        return [vertex == figure[1] for vertex in board.vertices], no_edges(board), no_faces(board)
    passes = passes_along(lines_of_basic(figure), board)
    return area_truths(passes, board) if kind == "area" else line_truths(passes, board)


def no_edges(board):
    return [False for _ in board.edges]


def no_faces(board):
    return [False for _ in board.faces]


def joined(kind, truths, others):
    """What is in both, in either, or in the first one less the other one."""
    return tuple([
        [is_joined(kind, first, second) for first, second in zip(row, other)]
        for row, other in zip(truths, others)
    ])


def is_joined(kind, first, second):
    if kind == "both":
        return first and second
    if kind == "either":
        return first or second
    return first and not second


def closed(truths, board):
    """The closure: each cell that is in it, or lies at one that is."""
    vertices, edges, faces = truths
    near_vertices = [
        vertices[vertex]
        or any(edges[edge] for edge in board.edges_at[vertex])
        or any(faces[face] for face in board.faces_at[vertex])
        for vertex in range(len(vertices))
    ]
    near_edges = [edges[edge] or any(faces[face] for face in board.sides[edge]) for edge in range(len(edges))]
    return near_vertices, near_edges, faces


def opened(truths, board):
    """The inner: what is left without the closure of all other cells."""
    others = tuple([[not is_in for is_in in row] for row in truths])
    return tuple([[not is_in for is_in in row] for row in closed(others, board)])


def passes_along(lines, board):
    """How often the lines, segments of the board, run along each edge."""
    passes = {edge: 0 for edge in board.edges}
    for line in lines:
        row = board.rows[line]
        for edge in zip(row, row[1:]):
            passes[edge] += 1
    return [passes[edge] for edge in board.edges]


def line_truths(passes, board):
    """A line that runs so often along each edge, with all ends."""
    edges = [many > 0 for many in passes]
    vertices = [any(edges[edge] for edge in board.edges_at[vertex]) for vertex in range(len(board.vertices))]
    return vertices, edges, no_faces(board)


def area_truths(passes, board):
    """A closed line that runs so often along each edge, and all round which it goes an odd number of times."""
    on_vertices, on_edges, _ = line_truths(passes, board)
    odd = odd_faces(passes, board)
    # What is not on the line has near it but faces round which the line goes as often.
    edges = [is_on or odd[left] for is_on, (left, _) in zip(on_edges, board.sides)]
    vertices = [is_on or odd[near[0]] for is_on, near in zip(on_vertices, board.faces_at)]
    return vertices, edges, odd


def odd_faces(passes, board):
    """For each face whether a line that runs so often along each edge goes round it an odd number of times."""
    across = [[] for _ in board.faces]
    for many, (left, right) in zip(passes, board.sides):
        across[left].append((right, many & 1 == 1))
        across[right].append((left, many & 1 == 1))
    odd = {0: False}
    waiting = [0]
    while waiting:
        face = waiting.pop()
        for other, is_odd in across[face]:
            if other not in odd:
                odd[other] = odd[face] != is_odd
                waiting.append(other)
    return [odd[face] for face in range(len(board.faces))]
