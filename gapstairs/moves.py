"""Fewest moves, and heights that show that there are no fewer (point 61)."""

from gapstairs.chambers import check_two, path_back
from gapstairs.checks import is_number
from gapstairs.errors import BadMost, BadOther
from gapstairs.fits import is_free
from gapstairs.lanes import UPRIGHT, cross, is_along, is_lane, is_on, lanes_in, rows_of


def crossed_by(rows, lane):
    """The list of the lanes that cross the lane."""
    others = rows[1] if lane[0] == UPRIGHT else rows[0]
    return [
        other for number, row in others if is_along(lane, number)
        for other in row if is_along(other, lane[1])
    ]


def lanes_from(rows, one):
    """The dict from each lane that one gets to, fewest moves first, to the lane ahead of it."""
    waiting = [lane for lane in lanes_in(rows) if is_on(lane, one)]
    came = {lane: None for lane in waiting}
    k = 0
    while k < len(waiting):
        here = waiting[k]
        k += 1
        for there in crossed_by(rows, here):
            if there not in came:
                came[there] = here
                waiting.append(there)
    return came


def least_path(drawing, body, one, other):
    """The list of as few lanes as possible that lead from one to an unlike other; None if there are none."""
    came = lanes_from(rows_of(drawing, body, [one, other]), one)
    ends = [lane for lane in came if is_on(lane, other)]
    return path_back(came, ends[0]) if ends else None


def fewest(drawing, body, one, other):
    """fewest_moves, for values that are surely such."""
    if one == other:
        return 0 if is_free(drawing, body, one) else None
    path = least_path(drawing, body, one, other)
    return None if path is None else len(path)


def is_at_most(number, most):
    """Whether there is a number, and it is not above most."""
    return number is not None and number <= most


def short(drawing, body, one, other):
    """short_way, for values that are surely such."""
    if one == other:
        return [one] if is_free(drawing, body, one) else None
    path = least_path(drawing, body, one, other)
    if path is None:
        return None
    return [one] + [cross(path[k], path[k + 1]) for k in range(len(path) - 1)] + [other]


def heights_for(drawing, body, one, other, most):
    """Heights for most that hold if no way makes at most so many moves."""
    rows = rows_of(drawing, body, [one, other])
    came = lanes_from(rows, one)
    found = {}
    for lane in came:
        ahead = came[lane]
        found[lane] = 1 if ahead is None else found[ahead] + 1
    return {lane: found.get(lane, most + 1) for lane in lanes_in(rows)}


def fit_to_most(every, one, other, most, thing):
    """Whether the numbers of all lanes are such as their ends ask for."""
    for lane in every:
        number = thing[lane]
        if not is_number(number) or number < 0:
            return False
        if is_on(lane, one) and number > 1 or is_on(lane, other) and number <= most:
            return False
    return True


def are_heights_of(drawing, body, one, other, most, thing):
    """Whether any value is heights for most, the other parameters surely being such."""
    rows = rows_of(drawing, body, [one, other])
    every = lanes_in(rows)
    if not isinstance(thing, dict) or len(thing) != len(every):
        return False
    # Keys are asked for their form first: True would be found where 1 stands.
    if not all([is_lane(key) for key in thing]) or not all([lane in thing for lane in every]):
        return False
    if not fit_to_most(every, one, other, most, thing):
        return False
    return all([
        abs(thing[lane] - thing[there]) <= 1
        for lane in every if lane[0] == UPRIGHT for there in crossed_by(rows, lane)
    ])


def check_unlike(one, other):
    if one == other:
        raise BadOther("the two spots are equal")


def check_most(most):
    if not is_number(most) or most < 0:
        raise BadMost("most is a number from 0 on")


def check_moves(drawing, body, one, other, most):
    check_two(drawing, body, one, other)
    check_unlike(one, other)
    check_most(most)


def fewest_moves(drawing, body, one, other):
    """The least number of moves of a way from one to other; None if there is none."""
    check_two(drawing, body, one, other)
    return fewest(drawing, body, one, other)


def short_way(drawing, body, one, other):
    """A way from one to other of as few moves as possible; None if there is none."""
    check_two(drawing, body, one, other)
    return short(drawing, body, one, other)


def heights(drawing, body, one, other, most):
    """A number for each lane; None if some way makes at most most moves."""
    check_moves(drawing, body, one, other, most)
    if is_at_most(fewest(drawing, body, one, other), most):
        return None
    return heights_for(drawing, body, one, other, most)


def are_heights(drawing, body, one, other, most, thing):
    """Whether any value is heights for most."""
    check_moves(drawing, body, one, other, most)
    return are_heights_of(drawing, body, one, other, most, thing)
