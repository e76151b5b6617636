"""Claims: which values are such, be they so or not."""

from bentalike.forms import is_label, is_name, is_pick_form, is_side
from bentalike.kinds import is_place, is_row, is_whole
from bentalike.planning import is_plan_form
from bentalike.scenes import is_scene
from bentalike.sheets import steps_of
from bentalike.soundness import is_sound_map

# What stands behind the first word of a claim.
PARTS = {
    "label": ("scene", "point", "label"),
    "least": ("map", "map"),
    "renamed": ("map", "map", "side"),
    "bent": ("scene", "scene", "side"),
    "not bent": ("scene", "scene", "side"),
    "drawn": ("least map", "plan"),
    "meetings": ("scene", "name", "name", "truths"),
    "joined": ("scene", "pick", "point", "point"),
    "parted": ("scene", "pick", "point", "point"),
    "reads": ("text", "scene"),
    "reads not": ("text", "place"),
}
MANY_TRUTHS = 9


def is_claim(value):
    """Whether value, whatever it is, is a claim."""
    if not isinstance(value, tuple) or not value or not isinstance(value[0], str) or value[0] not in PARTS:
        return False
    kinds = PARTS[value[0]]
    return len(value) == 1 + len(kinds) and all(is_part(kind, part) for kind, part in zip(kinds, value[1:]))


def is_part(kind, value):
    """Whether value is what stands in a claim where one of this kind has to."""
    if kind == "scene":
        return is_scene(value)
    if kind == "map":
        return is_sound_map(value)
    if kind == "least map":
        return is_sound_map(value) and not steps_of(value)
    if kind == "plan":
        return is_plan_form(value)
    if kind == "pick":
        return is_pick_form(value)
    if kind == "truths":
        return is_row(value, MANY_TRUTHS, MANY_TRUTHS) and all(isinstance(truth, bool) for truth in value)
    return is_small_part(kind, value)


def is_small_part(kind, value):
    if kind == "point":
        return is_place(value)
    if kind == "label":
        return is_label(value)
    if kind == "name":
        return is_name(value)
    if kind == "side":
        return is_side(value)
    return isinstance(value, str) if kind == "text" else is_whole(value)
