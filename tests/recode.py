"""The document's words on codes and renamings done again, slowly and by another way, to compare with."""

from functools import lru_cache
from itertools import permutations, product
from math import factorial

import charts
from bentalike.maps import parts_in


@lru_cache(maxsize=100)
def lefts(chart):
    """For each dart the face that has it in one of its walks."""
    return {dart: face for face, (_, walks, _) in enumerate(chart[4]) for walk in walks for dart in walk}


def left_of(chart, dart):
    return lefts(chart)[dart]


def word(label):
    return "".join(label) or "-"


def net_of(chart, special):
    """The specials that hang together with a special."""
    found = {special}
    while True:
        more = {end for tail, head, _ in chart[1] if tail in found or head in found for end in (tail, head)} - found
        if not more:
            return found
        found |= more


def leaving(chart, dart):
    return chart[1][dart // 2][dart % 2]


def outer_darts(chart, face, special):
    """The darts of the outer walk of a net in a face."""
    net = net_of(chart, special)
    return [dart for dart in range(2 * len(chart[1]))
            if leaving(chart, dart) in net and left_of(chart, dart) == face]


def dart_numbers(chart, first):
    """The specials and the darts of a net, from a dart on, in the order of their numbers."""
    specials, starts, darts = [leaving(chart, first)], [first], []
    for at in range(len(chart[0])):
        if at == len(specials):
            break
        turn = chart[2][specials[at]]
        at_start = turn.index(starts[at])
        for dart in turn[at_start:] + turn[:at_start]:
            darts.append(dart)
            if leaving(chart, dart ^ 1) not in specials:
                specials.append(leaving(chart, dart ^ 1))
                starts.append(dart ^ 1)
    return specials, darts


def net_text(chart, first, outer):
    specials, darts = dart_numbers(chart, first)
    walks = [walk for walk in charts.walks_of(chart) if not set(walk) & set(outer)]
    firsts = [min(walk, key=darts.index) for walk in walks if set(walk) <= set(darts)]
    text = "("
    for special in specials:
        text += "/" + word(chart[0][special])
        for dart in darts:
            if leaving(chart, dart) == special:
                own, number = darts.index(dart), darts.index(dart ^ 1)
                text += f" {number}"
                if number > own:
                    text += word(chart[1][dart // 2][2])
                if dart in firsts:
                    text += face_text(chart, left_of(chart, dart))
    return text + ")"


def net_texts(chart, face, special):
    """The texts of a net from each dart of its outer walk."""
    outer = outer_darts(chart, face, special)
    return [net_text(chart, dart, outer) for dart in outer]


def part_text(chart, face, part):
    kind, index = part
    if kind == "ring":
        return "o" + word(chart[3][index][0]) + face_text(chart, chart[3][index][1])
    if not chart[2][index]:
        return "." + word(chart[0][index])
    return min(net_texts(chart, face, index))


def face_text(chart, face=0):
    """The code of a face; of face 0, so of the map."""
    texts = [part_text(chart, face, part) for part in parts_in(chart, face)]
    return "[" + word(chart[4][face][0]) + "".join(sorted(texts)) + "]"


def many_of_face(chart, face=0):
    """How many renamings of what lies in a face keep sides, as the document counts them."""
    total, counts = 1, {}
    for part in parts_in(chart, face):
        text = part_text(chart, face, part)
        counts[text] = counts.get(text, 0) + 1
        total *= many_of_part(chart, face, part)
    for many in counts.values():
        total *= factorial(many)
    return total


def many_of_part(chart, face, part):
    kind, index = part
    if kind == "ring":
        return many_of_face(chart, chart[3][index][1])
    if not chart[2][index]:
        return 1
    texts = net_texts(chart, face, index)
    total = texts.count(min(texts))
    net = net_of(chart, index)
    within = {left_of(chart, dart) for dart in range(2 * len(chart[1])) if leaving(chart, dart) in net} - {face}
    for other in within:
        total *= many_of_face(chart, other)
    return total


def follows(chart, dart):
    turn = chart[2][leaving(chart, dart)]
    return turn[(turn.index(dart) + 1) % len(turn)]


def is_led(chart, other, side, renaming):
    """Whether four rows of the right lengths, each of unlike numbers, rename, read word by word."""
    specials, darts, rings, faces = renaming
    told = [faces[0] == 0]
    told += [chart[0][special] == other[0][specials[special]] for special in range(len(specials))]
    told += [chart[4][face][0] == other[4][faces[face]][0] for face in range(len(faces))]
    for face, (_, _, spots) in enumerate(chart[4]):
        told += [specials[spot] in other[4][faces[face]][2] for spot in spots]
    for ring, (label, within, around) in enumerate(chart[3]):
        told.append((label, faces[within], faces[around]) == other[3][rings[ring]])
    for dart, goal in enumerate(darts):
        told += [darts[dart ^ 1] == goal ^ 1, chart[1][dart // 2][2] == other[1][goal // 2][2],
                 specials[leaving(chart, dart)] == leaving(other, goal)]
        behind = darts[follows(chart, dart)]
        face = faces[left_of(chart, dart)]
        if side == "keeps":
            told += [behind == follows(other, goal), face == left_of(other, goal)]
        else:
            told += [follows(other, behind) == goal, face == left_of(other, goal ^ 1)]
    return all(told)


def all_renamings(chart, other, side):
    """All there are, found by going through all rows of numbers; for small maps alone."""
    counts = [len(chart[row]) for row in (0, 1, 3, 4)]
    if counts != [len(other[row]) for row in (0, 1, 3, 4)]:
        return []
    found = []
    for specials, arcs, rings, faces in product(*[permutations(range(many)) for many in counts]):
        for flips in product((0, 1), repeat=counts[1]) if faces[0] == 0 else ():
            darts = tuple(2 * arc + (flip ^ end) for arc, flip in zip(arcs, flips) for end in (0, 1))
            if is_led(chart, other, side, (specials, darts, rings, faces)):
                found.append((specials, darts, rings, faces))
    return found
