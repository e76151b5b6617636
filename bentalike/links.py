"""Darts, turns, walks, and what hangs together: of numbers alone, so for drawings and maps alike."""


def opposite(dart):
    return dart ^ 1


def from_least(darts):
    """The darts, told in a round, from the least one on."""
    at = darts.index(min(darts))
    return tuple(darts[at:] + darts[:at])


def darts_ahead(turns):
    """For each dart the one just ahead of it in its turn."""
    ahead = {}
    for turn in turns:
        for at, dart in enumerate(turn):
            # The last one is ahead of the first one, as index -1 tells.
            ahead[dart] = turn[at - 1]
    return ahead


def walk_from(ahead, first):
    walk = [first]
    dart = ahead[opposite(first)]
    while dart != first:
        walk.append(dart)
        dart = ahead[opposite(dart)]
    return tuple(walk)


def walks_along(turns):
    """All walks, ascending, each from its least dart on."""
    ahead = darts_ahead(turns)
    walks = []
    seen = set()
    for first in range(len(ahead)):
        if first not in seen:
            walk = walk_from(ahead, first)
            walks.append(walk)
            for dart in walk:
                seen.add(dart)
    return tuple(walks)


def spread(groups, near, least):
    """Put into groups, under the vertex least, all to which one comes from it by near ones."""
    groups[least] = least
    waiting = [least]
    while waiting:
        vertex = waiting.pop()
        for other in near[vertex]:
            if other not in groups:
                groups[other] = least
                waiting.append(other)


def groups_of(many, pairs):
    """For each of so many vertices the least one with which it hangs together by the pairs."""
    near = [[] for _ in range(many)]
    for first, second in pairs:
        near[first].append(second)
        near[second].append(first)
    groups = {}
    for least in range(many):
        if least not in groups:
            spread(groups, near, least)
    return [groups[vertex] for vertex in range(many)]
