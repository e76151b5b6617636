"""Plans: maps with points, those of scenes, and maps drawn again."""

from bentalike.checks import check_bound, check_map, check_scene
from bentalike.planning import is_plan_form, plan_in
from bentalike.sketching import plan_drawn

MOST_DRAWN = 80


def plan_of(scene):
    """The plan of the scene: (MAP, POINTS)."""
    check_scene(scene)
    return plan_in(scene)


def is_plan(value):
    """Whether value, whatever it is, is a plan."""
    return is_plan_form(value)


def drawn(chart):
    """A plan of which the least map has the code of the map's least map."""
    check_map(chart)
    specials, arcs, _, rings, _ = chart
    check_bound(len(specials) + len(arcs) + len(rings), MOST_DRAWN)
    return plan_drawn(chart)
