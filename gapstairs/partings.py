"""Cases that feel alike, and rows of moves that part others (point 91)."""

from gapstairs.checks import is_list, is_number
from gapstairs.drawings import check_drawing
from gapstairs.errors import BadCases, BadNumber
from gapstairs.fits import barred_boxes
from gapstairs.machines import (
    MOVES, SENSES, check_case, check_case_here, check_senses, feel_at, is_case_of, is_stand, least_of, machine_of,
    parted, stand_behind,
)

MOST_NUMBER = 99


def check_cases(drawing, cases):
    if not is_list(cases) or len(cases) == 0 or not all([is_case_of(drawing, case) for case in cases]):
        raise BadCases("cases are a list of one or more cases")


def check_number(number):
    if not is_number(number) or not 0 <= number <= MOST_NUMBER:
        raise BadNumber("number is a number from 0 to 99")


def check_two_cases(drawing, one, other, senses):
    check_case_here(drawing, one)
    check_case(drawing, other)
    check_senses(senses)


class Pairs:
    """The pairs of stands to which rows lead from two cases, up to the first one that parts them."""

    def __init__(self, start):
        self.came = {start: None}
        self.unlike = None


def pairs_from(drawing, one, other, senses):
    """The pairs to which rows lead, the shortest rows first, and those of one length move by move."""
    boxes = barred_boxes(drawing, one[0])
    others = barred_boxes(drawing, other[0])
    pairs = Pairs((one[1], other[1]))
    waiting = [(one[1], other[1])]
    k = 0
    while k < len(waiting):
        here = waiting[k]
        k += 1
        if feel_at(boxes, here[0], senses) != feel_at(others, here[1], senses):
            pairs.unlike = here
            return pairs
        for move in MOVES:
            there = (stand_behind(boxes, here[0], move), stand_behind(others, here[1], move))
            if there not in pairs.came:
                pairs.came[there] = (here, move)
                waiting.append(there)
    return pairs


def row_to(came, pair):
    """The list of the moves by which the pair was come to."""
    row = []
    step = came[pair]
    while step is not None:
        row.append(step[1])
        step = came[step[0]]
    return list(reversed(row))


def parting(drawing, one, other, senses=SENSES):
    """The first of the shortest rows that feel unlike from the two cases; None if there is none."""
    check_two_cases(drawing, one, other, senses)
    pairs = pairs_from(drawing, one, other, senses)
    return None if pairs.unlike is None else row_to(pairs.came, pairs.unlike)


def are_alike(drawing, one, other, senses=SENSES):
    """Whether all rows feel the same from both cases."""
    check_two_cases(drawing, one, other, senses)
    return pairs_from(drawing, one, other, senses).unlike is None


def likeness(drawing, one, other, senses=SENSES):
    """The ascending tuple of the pairs of stands to which rows lead; None if the cases are not alike."""
    check_two_cases(drawing, one, other, senses)
    pairs = pairs_from(drawing, one, other, senses)
    return tuple(sorted(list(pairs.came))) if pairs.unlike is None else None


def is_stand_pair(drawing, one, other, thing):
    """Whether it is a pair of a stand of the one's body and one of the other's."""
    if not isinstance(thing, tuple) or len(thing) != 2:
        return False
    return is_stand(drawing, one[0], thing[0]) and is_stand(drawing, other[0], thing[1])


def is_likeness(drawing, one, other, thing, senses=SENSES):
    """Whether any value is a likeness of the two cases."""
    check_two_cases(drawing, one, other, senses)
    if not isinstance(thing, tuple) or not all([is_stand_pair(drawing, one, other, pair) for pair in thing]):
        return False
    known = {pair: True for pair in thing}
    if len(known) != len(thing) or (one[1], other[1]) not in known:
        return False
    boxes = barred_boxes(drawing, one[0])
    others = barred_boxes(drawing, other[0])
    if any([feel_at(boxes, here, senses) != feel_at(others, there, senses) for here, there in thing]):
        return False
    return all([
        (stand_behind(boxes, here, move), stand_behind(others, there, move)) in known
        for here, there in thing for move in MOVES
    ])


def grouped(keys):
    """The ascending list of the lists of the indexes of equal keys."""
    groups = {}
    for k, key in enumerate(keys):
        groups.setdefault(key, []).append(k)
    return list(groups.values())


def kinds_of(drawing, cases, senses):
    """kinds, for values that are surely such."""
    return grouped([least_of(machine_of(drawing, case, senses)) for case in cases])


def kinds(drawing, cases, senses=SENSES):
    """The ascending list of the lists of the indexes of cases that are alike."""
    check_drawing(drawing)
    check_cases(drawing, cases)
    check_senses(senses)
    return kinds_of(drawing, cases, senses)


def side_by_side(machines):
    """One list of the pairs of all machines, which do not lead from one to another."""
    found = []
    for pairs in machines:
        start = len(found)
        found.extend([(told, tuple([start + goal for goal in goals])) for told, goals in pairs])
    return found


def kinds_within(drawing, cases, number, senses=SENSES):
    """The lists of the indexes of cases from which all rows of at most so many moves feel the same."""
    check_drawing(drawing)
    check_cases(drawing, cases)
    check_number(number)
    check_senses(senses)
    machines = [least_of(machine_of(drawing, case, senses)) for case in cases]
    classes = parted(side_by_side(machines), number)
    starts = [sum([len(pairs) for pairs in machines[:k]]) for k in range(len(machines))]
    return grouped([classes[start] for start in starts])
