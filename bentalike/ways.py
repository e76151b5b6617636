"""Ways from cell to neighbouring cell, without checks of what is passed."""

from bentalike.webs import neighbours_in


def cells_ahead(web, truths, start):
    """For each cell to which a way leads from start, through cells that are in, the one ahead on it, None for start."""
    near = [[] for _ in truths]
    for cell, other in neighbours_in(web):
        if truths[cell] and truths[other]:
            near[cell].append(other)
            near[other].append(cell)
    ahead = {start: None}
    waiting = [start]
    while waiting:
        cell = waiting.pop()
        for other in near[cell]:
            if other not in ahead:
                ahead[other] = cell
                waiting.append(other)
    return ahead


def way_to(ahead, goal):
    """The cells of the way from the start, as told by the ones ahead, to a goal."""
    way = [goal]
    while ahead[way[-1]] is not None:
        way.append(ahead[way[-1]])
    return way[::-1]
