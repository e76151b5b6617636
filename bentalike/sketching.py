"""Maps drawn again, straight, on points of whole numbers, without checks of what is passed.

A place of the drawing is told by ("special", S), ("ring", R, K) or ("arc", A, K): what a ring, or an arc
between its ends, is cut by. A block is a triple of a width, a height, and points by places, from (0, 0) on.
"""

from bentalike.cutting import ends_of, turns_at
from bentalike.facing import faces_of
from bentalike.grids import placed_on_grid
from bentalike.nesting import Nest, left_faces
from bentalike.planning import chart_with


def line_of_arc(arcs, arc):
    """The places along an arc."""
    tail, head, _ = arcs[arc]
    return [("special", tail), ("arc", arc, 0), ("arc", arc, 1), ("special", head)]


def line_of_ring(ring):
    """The places along a ring, counterclockwise, so that what is within lies on the left."""
    return [("ring", ring, 0), ("ring", ring, 1), ("ring", ring, 2), ("ring", ring, 0)]


def places_along(arcs, walk):
    """The places along a walk, each once for each dart by which the walk leaves it."""
    row = []
    for dart in walk:
        line = line_of_arc(arcs, dart // 2)
        row.extend(line[:0:-1] if dart & 1 else line[:-1])
    return row


def rounds_of(chart, nest, part):
    """The places along the outer walk of a net or ring, and the pairs of a face and the places along its walk."""
    kind, index = part
    if kind == "ring":
        line = line_of_ring(index)
        return line[:0:-1], [(chart[3][index][1], line[:-1])]
    outer = places_along(chart[1], nest.outer[part])
    return outer, [(face, places_along(chart[1], walk)) for face, walk in nest.inner[part]]


def filled(rounds):
    """Triangles that fill all faces of a net, told by the places along their walks; their added corners are numbers.

    For each walk, along each of its lines, a corner is added, and one in the middle: told behind the
    triangles as a triple of two of those along the walk, which follow one another, and the middle one.
    """
    triangles = []
    centres = []
    many = 0
    for row in rounds:
        size = len(row)
        middle = many + size
        for at in range(size):
            behind = (at + 1) % size
            corner, other = many + at, many + behind
            triangles.append((row[at], row[behind], corner))
            triangles.append((row[behind], other, corner))
            triangles.append((corner, other, middle))
        centres.append((many, many + 1, middle))
        many = middle + 1
    return triangles, centres


def block_of_part(chart, nest, blocks, part):
    """The block of a part with all that lies in faces behind it, of which the blocks are there."""
    if part[0] == "special" and not chart[2][part[1]]:
        return 0, 0, {part: (0, 0)}
    outer, inner = rounds_of(chart, nest, part)
    rounds = [outer] + [row for _, row in inner]
    triangles, centres = filled(rounds)
    # Of the outer face the triangle is seen from its other side: the first corner lies to the right.
    right, left, top = centres[0]
    grid = placed_on_grid(triangles, left, right, top)
    full = [(blocks[face], centre) for (face, _), centre in zip(inner, centres[1:]) if blocks[face][2]]
    scale = max([width + height for (width, height, _), _ in full], default=1)
    places = {}
    for row in rounds:
        for place in row:
            x, y = grid[place]
            places[place] = scale * x, scale * y
    for block, centre in full:
        put_in_triangle(places, block, scale, [grid[corner] for corner in centre])
    return trimmed(places)


def put_in_triangle(places, block, scale, corners):
    """Put the points of a block, made small, in a triangle that is given before it is scaled.

    On the rim of the triangle, too, nothing else is drawn: it lies within a face.
    """
    (x, y), (next_x, next_y), (last_x, last_y) = corners
    _, _, points = block
    for place in points:
        # Both steps from the first corner are from 0 up and together up to the scale.
        along, across = points[place]
        places[place] = (
            scale * x + along * (next_x - x) + across * (last_x - x),
            scale * y + along * (next_y - y) + across * (last_y - y),
        )


def trimmed(places):
    """The block of these points."""
    xs = [x for x, _ in places.values()]
    ys = [y for _, y in places.values()]
    low_x, low_y = min(xs), min(ys)
    points = {place: (places[place][0] - low_x, places[place][1] - low_y) for place in places}
    return max(xs) - low_x, max(ys) - low_y, points


def side_by_side(blocks):
    """The block of blocks, each to the right of the one ahead."""
    start = height = 0
    points = {}
    for width, own_height, own_points in blocks:
        for place in own_points:
            x, y = own_points[place]
            points[place] = start + x, y
        start += width + 1
        height = max(height, own_height)
    return start, height, points


def points_for(chart):
    """Points, pairs of whole numbers, for all places of the drawing."""
    nest = Nest(chart)
    blocks = {}
    for face in reversed(nest.faces):
        blocks[face] = side_by_side([block_of_part(chart, nest, blocks, part) for part in nest.lying[face]])
    _, _, points = blocks[0]
    return points


def lines_for(chart):
    """The quadruples of two neighbouring places of the drawing, a label, and the pair of faces left and right."""
    _, arcs, _, rings, _ = chart
    left = left_faces(chart)
    lines = [
        (line_of_arc(arcs, arc), arcs[arc][2], (left[2 * arc], left[2 * arc + 1])) for arc in range(len(arcs))
    ]
    lines.extend([(line_of_ring(ring), label, (within, around)) for ring, (label, within, around) in enumerate(rings)])
    return [(line[at], line[at + 1], label, faces) for line, label, faces in lines for at in range(3)]


def label_of_place(chart, place):
    specials, arcs, _, rings, _ = chart
    kind, index = place[:2]
    if kind == "special":
        return specials[index]
    return rings[index][0] if kind == "ring" else arcs[index][2]


def plan_drawn(chart):
    """A plan whose map is the one passed but for needless passes, so one with the same least map."""
    points = points_for(chart)
    order = sorted([(points[place], place) for place in points])
    numbers = {place: number for number, (_, place) in enumerate(order)}
    vertices = tuple([((x, 1), (y, 1)) for (x, y), _ in order])
    labels = {}
    left = {}
    for first, second, label, (left_face, right_face) in lines_for(chart):
        low, high = numbers[first], numbers[second]
        labels[min(low, high), max(low, high)] = label
        left[low, high] = left_face
        left[high, low] = right_face
    edges = tuple(sorted(labels))
    turns = turns_at(vertices, edges)
    faces = faces_of(vertices, edges, turns)
    owns = [ends_of(edges, walks[0][0]) for walks, _ in faces[1:]]
    told = (
        tuple([label_of_place(chart, place) for _, place in order]),
        tuple([labels[edge] for edge in edges]),
        ((),) + tuple([chart[4][left[ends]][0] for ends in owns]),
    )
    return chart_with(edges, turns, faces, told), vertices
