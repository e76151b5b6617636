"""The document's words on cells, picks and pieces done again, with sets of cells, to compare with."""

from recode import left_of

KINDS = (("arc", 1), ("face", 4), ("ring", 3), ("special", 0))


def cells(chart):
    return [(kind, index) for kind, row in KINDS for index in range(len(chart[row]))]


def label(chart, cell):
    kind, index = cell
    if kind == "special":
        return chart[0][index]
    return {"arc": lambda: chart[1][index][2], "face": lambda: chart[4][index][0],
            "ring": lambda: chart[3][index][0]}[kind]()


def rimmed(chart, cell):
    """What a cell rims."""
    kind, index = cell
    if kind == "special":
        found = {("arc", arc) for arc, ends in enumerate(chart[1]) if index in ends[:2]}
        found |= {("face", left_of(chart, dart)) for dart in chart[2][index]}
        return found | {("face", face) for face, (_, _, spots) in enumerate(chart[4]) if index in spots}
    if kind == "arc":
        return {("face", left_of(chart, dart)) for dart in (2 * index, 2 * index + 1)}
    return {("face", face) for face in chart[3][index][1:]} if kind == "ring" else set()


def picked(chart, pick):
    """The set of cells of a pick."""
    every = set(cells(chart))
    if pick[0] == "all":
        return every
    if pick[0] == "name":
        return {cell for cell in every if pick[1] in label(chart, cell)}
    parts = [picked(chart, part) for part in pick[1:]]
    closure = {cell for cell in every if cell in parts[0] or rimmed(chart, cell) & parts[0]}
    inner = {cell for cell in parts[0] if rimmed(chart, cell) <= parts[0]}
    plain = {"not": lambda: every - parts[0], "closure": lambda: closure, "inner": lambda: inner,
             "rim": lambda: closure - inner, "both": lambda: parts[0] & parts[1],
             "either": lambda: parts[0] | parts[1], "less": lambda: parts[0] - parts[1]}
    return plain[pick[0]]()


def are_neighbours(chart, cell, other):
    return other in rimmed(chart, cell) or cell in rimmed(chart, other)


def pieces(chart, own):
    """The pieces of a set of cells, as the document tells them."""
    left, found = set(own), []
    while left:
        piece = {min(left)}
        while True:
            more = {cell for cell in left - piece if any(are_neighbours(chart, cell, other) for other in piece)}
            if not more:
                break
            piece |= more
        left -= piece
        found.append(tuple(sorted(piece)))
    return tuple(sorted(found))


def holes(chart, own):
    rest = pieces(chart, set(cells(chart)) - set(own))
    return tuple(piece for piece in rest if ("face", 0) not in piece)


def surrounding(chart, told):
    """For each piece the indexes of those that surround it."""
    around = [{cell for hole in holes(chart, piece) for cell in hole} for piece in told]
    return [[index for index, held in enumerate(around) if set(piece) <= held] for piece in told]


def innermost(surrounds, index):
    """Of those that surround a piece the one that all others surround; None if none does."""
    for other in surrounds[index]:
        if all(each == other or each in surrounds[other] for each in surrounds[index]):
            return other
    return None


def some_pick(chance, deep, names="ABC"):
    word = chance.choice(("not", "rim", "inner", "closure", "both", "either", "less")) if deep > 1 else "name"
    if deep == 1:
        return ("name", chance.choice(names)) if chance.random() < 0.85 else ("all",)
    parts = [some_pick(chance, deep - 1, names)]
    if word in ("both", "either", "less"):
        parts.append(some_pick(chance, chance.randrange(1, deep), names))
    return (word,) + tuple(parts)
