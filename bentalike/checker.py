"""The checker: takes claims with papers, and solves nothing."""

from bentalike.answers import do_share, thirds_of
from bentalike.claims import is_claim
from bentalike.errors import BadText
from bentalike.flipping import seen_from
from bentalike.grounds import Ground
from bentalike.kinds import is_ascending, is_place, is_row, is_whole
from bentalike.matching import does_rename
from bentalike.planning import plan_in
from bentalike.reader import read_scene
from bentalike.renamings import alike
from bentalike.scenes import label_at
from bentalike.sheets import WORDS, steps_of, walked
from bentalike.webs import neighbours_in, truths_in


def accepts(claim, paper):
    """Whether claim, whatever it is, is a claim, and paper, whatever it is, a paper for it."""
    if not is_claim(claim):
        return False
    word = claim[0]
    if word == "renamed":
        return does_rename(claim[1], seen_from(claim[2], claim[3]), paper)
    if word == "least":
        return is_way_down(claim[1], claim[2], paper)
    if word == "drawn":
        return is_way_down(claim[2][0], claim[1], paper)
    if word == "bent":
        return is_bending(claim, paper)
    if word == "meetings":
        return is_meeting(claim, paper)
    if word == "joined":
        return is_joint(claim, paper)
    if word == "parted":
        return is_parting(claim, paper)
    return is_row(paper, 0, 0) and is_plainly_so(claim)


def is_plainly_so(claim):
    """Whether a claim for which no paper is needed is so."""
    word, told, other = claim[:3]
    if word == "label":
        return label_at(told, other) == claim[3]
    if word == "not bent":
        keeps, turns = alike(told, other)
        return not (keeps if claim[3] == "keeps" else turns)
    try:
        scene = read_scene(told)
    except BadText as error:
        return word == "reads not" and error.spot == other
    return word == "reads" and scene == other


def left_behind(chart, steps):
    """The least map to which steps lead a map; None if they are none, or lead to no least one."""
    if not isinstance(steps, tuple) or not all(is_step_form(step) for step in steps):
        return None
    left = walked(chart, steps)
    return None if left is None or steps_of(left) else left


def is_step_form(value):
    if not is_row(value, 2, 2) or not isinstance(value[0], str) or value[0] not in WORDS:
        return False
    return is_whole(value[1]) and value[1] >= 0


def is_way_down(chart, goal, paper):
    """Whether paper tells steps by which the map comes to a least one, and a renaming of this to the goal."""
    if not is_row(paper, 2, 2):
        return False
    left = left_behind(chart, paper[0])
    return left is not None and does_rename(left, goal, paper[1])


def is_bending(claim, paper):
    _, scene, other, side = claim
    if not is_row(paper, 3, 3):
        return False
    left, goal = [left_behind(plan_in(each)[0], steps) for each, steps in ((scene, paper[0]), (other, paper[2]))]
    return left is not None and goal is not None and does_rename(left, seen_from(goal, side), paper[1])


def is_meeting(claim, paper):
    """Whether paper tells a point in both for each two parts of which it is said that they meet, and no others do."""
    _, scene, name, other, truths = claim
    if not is_row(paper, len(truths), len(truths)):
        return False
    ground = Ground(scene)
    others = thirds_of(ground.web, other)
    pairs = [(own, each) for own in thirds_of(ground.web, name) for each in others]
    return all([
        is_in_both(ground, pair, point) if truth else point is None and not do_share(pair[0], pair[1])
        for truth, pair, point in zip(truths, pairs, paper)
    ])


def is_in_both(ground, pair, value):
    """Whether value, whatever it is, is a point of cells that are in both."""
    if not is_place(value):
        return False
    number = ground.number_at(value)
    return pair[0][number] and pair[1][number]


def numbers_from(ground, value):
    """The numbers of the cells of a tuple, whatever value is; None if it is no tuple of cells."""
    if not isinstance(value, tuple) or not all(ground.web.has_cell(cell) for cell in value):
        return None
    return [ground.web.numbers[cell] for cell in value]


def is_joint(claim, paper):
    """Whether paper tells a row of unlike cells of the pick, neighbours, from the one point to the other one."""
    _, scene, pick, point, other = claim
    ground = Ground(scene)
    numbers = numbers_from(ground, paper)
    if not numbers or len(set(numbers)) != len(numbers):
        return False
    truths = truths_in(ground.web, pick)
    return (
        all(truths[number] for number in numbers)
        and [numbers[0], numbers[-1]] == [ground.number_at(point), ground.number_at(other)]
        and all(ground.web.are_neighbours(numbers[at], numbers[at + 1]) for at in range(len(numbers) - 1))
    )


def is_parting(claim, paper):
    """Whether paper tells cells of the pick, one point in them, that the pick leaves on no way to the other point."""
    _, scene, pick, point, other = claim
    ground = Ground(scene)
    numbers = numbers_from(ground, paper)
    if numbers is None or not is_ascending(numbers):
        return False
    truths = truths_in(ground.web, pick)
    among = [False for _ in truths]
    for number in numbers:
        among[number] = True
    return (
        all(truths[number] for number in numbers)
        and among[ground.number_at(point)]
        and truths[ground.number_at(other)] and not among[ground.number_at(other)]
        and all(among[cell] == among[near] for cell, near in neighbours_in(ground.web) if truths[cell] and truths[near])
    )
