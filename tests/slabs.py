"""Faces found by another way: the plane cut into upright slabs, whose pieces are joined where they touch."""

from fractions import Fraction

FAR = Fraction(10 ** 6)


class Slabs:
    """The pieces between edges within the slabs between vertices; for places of small numbers alone."""

    def __init__(self, places, pairs):
        self.places = places
        self.pairs = pairs
        self.borders = sorted({x for x, _ in places})
        self.middles = self.middles_of(self.borders)
        self.rows = [self.row_of(middle) for middle in self.middles]
        self.pieces = [(slab, gap) for slab, row in enumerate(self.rows) for gap in range(len(row) + 1)]
        self.group = {piece: piece for piece in self.pieces}
        for border in range(len(self.borders)):
            self.join_at(border)

    def middles_of(self, borders):
        if not borders:
            return [Fraction(0)]
        between = [(low + high) / 2 for low, high in zip(borders, borders[1:])]
        return [borders[0] - 1] + between + [borders[-1] + 1]

    def height(self, edge, x):
        (low_x, low_y), (high_x, high_y) = [self.places[end] for end in self.pairs[edge]]
        return low_y + (high_y - low_y) * (x - low_x) / (high_x - low_x)

    def row_of(self, x):
        """The edges over x, from below."""
        over = [edge for edge, (low, high) in enumerate(self.pairs)
                if self.places[low][0] < x < self.places[high][0]]
        return sorted(over, key=lambda edge: self.height(edge, x))

    def bounds(self, piece, x):
        slab, gap = piece
        row = self.rows[slab]
        low = self.height(row[gap - 1], x) if gap > 0 else -FAR
        high = self.height(row[gap], x) if gap < len(row) else FAR
        return low, high

    def head(self, piece):
        while self.group[piece] != piece:
            piece = self.group[piece]
        return piece

    def join_at(self, border):
        x = self.borders[border]
        upright = [(self.places[low][1], self.places[high][1]) for low, high in self.pairs
                   if self.places[low][0] == self.places[high][0] == x]
        for left in [piece for piece in self.pieces if piece[0] == border]:
            for right in [piece for piece in self.pieces if piece[0] == border + 1]:
                lows, highs = zip(self.bounds(left, x), self.bounds(right, x))
                if self.is_open(max(lows), min(highs), upright):
                    self.group[self.head(right)] = self.head(left)

    def is_open(self, low, high, upright):
        """Whether something of the way from low to high is left without the upright edges."""
        for bottom, top in sorted(upright):
            if bottom > low and low < high:
                return True
            low = max(low, top)
        return low < high

    def face_in(self, slab, y):
        """The face in the middle of a slab at y, on no edge."""
        below = sum(1 for edge in self.rows[slab] if self.height(edge, self.middles[slab]) < y)
        return self.head((slab, below))

    def face_at(self, place):
        """The face in which a place lies that is on no edge and no vertex but itself."""
        x, y = place
        slab = sum(1 for border in self.borders if border < x)
        for piece in self.pieces:
            low, high = self.bounds(piece, x) if piece[0] == slab else (FAR, FAR)
            if low < y < high:
                return self.head(piece)
        raise AssertionError(place)

    def left_of(self, dart):
        """The face on the left of a dart."""
        low, high = [self.places[end] for end in self.pairs[dart // 2]]
        if low[0] != high[0]:
            slab = self.borders.index(low[0]) + 1
            return self.head((slab, self.rows[slab].index(dart // 2) + (1 if dart % 2 == 0 else 0)))
        middle = (low[1] + high[1]) / 2
        slab = self.borders.index(low[0]) + dart % 2
        for piece in self.pieces:
            bottom, top = self.bounds(piece, low[0]) if piece[0] == slab else (FAR, FAR)
            if bottom < middle < top:
                return self.head(piece)
        raise AssertionError(dart)


def faces(places, pairs, walks, areas):
    """The faces as the document tells them, and for each head of the slabs its face."""
    slabs = Slabs(places, pairs)
    outer = slabs.head((0, 0))
    owns = sorted(walk for walk, area in zip(walks, areas) if area > 0)
    heads = [outer] + [slabs.left_of(walk[0]) for walk in owns]
    ended = {end for pair in pairs for end in pair}
    lone = [index for index in range(len(places)) if index not in ended]
    told = []
    for face, head in enumerate(heads):
        around = sorted(walk for walk, area in zip(walks, areas) if area <= 0 and slabs.left_of(walk[0]) == head)
        own = [owns[face - 1]] if face else []
        told.append((tuple(own + around), tuple(spot for spot in lone if slabs.face_at(places[spot]) == head)))
    return tuple(told), {head: face for face, head in enumerate(heads)}, slabs
