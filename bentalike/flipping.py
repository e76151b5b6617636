"""Maps seen from behind, without checks of what is passed."""

from bentalike.links import from_least, opposite


def turned_over(chart):
    """The map turned: turns the other way round, the walks of a face those of the opposites of its darts."""
    specials, arcs, turns, rings, faces = chart
    other_turns = tuple([from_least(turn[::-1]) if turn else () for turn in turns])
    other_faces = tuple([(label, turned_walks(walks), spots) for label, walks, spots in faces])
    return specials, arcs, other_turns, rings, other_faces


def turned_walks(walks):
    """The walks of a face when seen from behind: those of the opposites, the other way round."""
    return tuple(sorted([from_least([opposite(dart) for dart in walk[::-1]]) for walk in walks]))


def seen_from(chart, side):
    """The map as it is seen from the side told: what turns sides to a map keeps them to the map turned."""
    return turned_over(chart) if side == "turns" else chart
