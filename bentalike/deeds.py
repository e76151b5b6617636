"""Deeds on scenes: which of them fit, what comes of them, their work."""

from bentalike.checks import check_scene
from bentalike.doing import scene_behind, work_to
from bentalike.errors import InvalidDeed


def does_fit(scene, value):
    """Whether value, whatever it is, is a deed that fits on the scene."""
    check_scene(scene)
    return scene_behind(scene, value) is not None


def behind_deed(scene, deed):
    """The scene that comes of the deed."""
    check_scene(scene)
    behind = scene_behind(scene, deed)
    if behind is None:
        raise InvalidDeed(deed)
    return behind


def work_of(scene, deed):
    """The work of the deed: "none", "turned", "names" or "anew"."""
    return work_to(scene, deed, behind_deed(scene, deed))
