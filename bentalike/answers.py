"""How two sets of a map meet, and Euler numbers, without checks of what is passed."""

from bentalike.webs import Web, closed, denied, opened, rim_of, truths_in


def thirds_of(web, name):
    """The truths of the inner, the rim, the outside of a set."""
    truths = truths_in(web, ("name", name))
    return opened(web, truths), rim_of(web, truths), denied(closed(web, truths))


def do_share(truths, others):
    """Whether some cell is in both."""
    return any(first and second for first, second in zip(truths, others))


def truths_of_meeting(chart, name, other):
    web = Web(chart)
    others = thirds_of(web, other)
    return tuple([do_share(own, each) for own in thirds_of(web, name) for each in others])


def word_for(chart, name, other):
    web = Web(chart)
    own, others = truths_in(web, ("name", name)), truths_in(web, ("name", other))
    if own == others:
        return "same"
    if not do_share(own, denied(others)):
        return "within"
    if not do_share(others, denied(own)):
        return "around"
    if do_share(own, others):
        return "crossing"
    return "touching" if do_share(closed(web, own), closed(web, others)) else "apart"


def euler_of(chart, pick):
    """The Euler number of the cells of the pick."""
    web = Web(chart)
    counts = face_counts(chart)
    truths = truths_in(web, pick)
    return sum([count_of(cell, counts) for cell, truth in zip(web.cells, truths) if truth])


def count_of(cell, counts):
    """What one cell is counted for."""
    kind, index = cell
    if kind == "face":
        return counts[index]
    return {"special": 1, "arc": -1, "ring": 0}[kind]


def face_counts(chart):
    """What each face is counted for."""
    counts = [2 - len(walks) - len(spots) for _, walks, spots in chart[4]]
    counts[0] -= 1
    for _, within, around in chart[3]:
        counts[within] -= 1
        counts[around] -= 1
    return counts
