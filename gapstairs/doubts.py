"""Doubts about the case that it is, plans for all of them, closed tables and ranks that bar plans (point 93)."""

from gapstairs.checks import is_index, is_list, is_number, is_rising
from gapstairs.drawings import check_drawing
from gapstairs.errors import BadAim, BadCases, BadDoubt, BadPlan, BadRanks
from gapstairs.fits import barred_boxes
from gapstairs.machines import (
    LOST, MOVES, SENSES, check_move, check_senses, feel_at, is_move, is_senses, is_stand, stand_behind,
)
from gapstairs.partings import check_cases

DONE = ("done",)


class Field:
    """The cases among the blocks, with what is known of the moves of their bodies."""

    def __init__(self, drawing, cases):
        self.cases = list(cases)
        self.boxes = {case[0]: barred_boxes(drawing, case[0]) for case in cases}
        self.known = {}


def moves_from(field, index, stand):
    """The list of pairs (feel by all SENSES, stand), one behind each move of the case's body."""
    body = field.cases[index][0]
    if (body, stand) not in field.known:
        boxes = field.boxes[body]
        goals = [stand_behind(boxes, stand, move) for move in MOVES]
        field.known[(body, stand)] = [(feel_at(boxes, goal, SENSES), goal) for goal in goals]
    return field.known[(body, stand)]


def told_by(felt, senses):
    """What is left by the senses of what is felt by all."""
    return tuple([sense for sense in felt if sense in senses])


def as_doubts(groups):
    return {felt: tuple(groups[felt]) for felt in sorted(list(groups))}


def first_of(field, senses):
    """first_doubts, for values that are surely such."""
    groups = {}
    for index, case in enumerate(field.cases):
        felt = feel_at(field.boxes[case[0]], case[1], senses)
        groups.setdefault(felt, []).append((index, case[1]))
    return as_doubts(groups)


def answers_of(field, doubt, number, senses):
    """answers to the move of this number in MOVES, for values that are surely such."""
    groups = {}
    for index, stand in doubt:
        felt, goal = moves_from(field, index, stand)[number]
        groups.setdefault(told_by(felt, senses), []).append((index, goal))
    return as_doubts(groups)


def is_doubt(drawing, cases, thing):
    """Whether any value is a doubt of the cases."""
    if not isinstance(thing, tuple) or len(thing) == 0:
        return False
    if not all([isinstance(pair, tuple) and len(pair) == 2 and is_index(pair[0], len(cases)) for pair in thing]):
        return False
    if not is_rising([pair[0] for pair in thing]):
        return False
    return all([is_stand(drawing, cases[index][0], stand) for index, stand in thing])


def is_aim_box(thing):
    """Whether any value is a box (left, low, right, high) of an aim."""
    if not isinstance(thing, tuple) or len(thing) != 4 or not all([is_number(item) for item in thing]):
        return False
    return thing[0] <= thing[2] and thing[1] <= thing[3]


def is_aim_for(many, thing):
    """Whether any value is an aim for so many cases."""
    if not isinstance(thing, tuple) or len(thing) != 2 or thing[0] not in ("reach", "tell"):
        return False
    parts = thing[1]
    if not isinstance(parts, tuple) or len(parts) != many:
        return False
    return all([is_aim_box(part) if thing[0] == "reach" else is_number(part) for part in parts])


def lies_within(stand, box):
    """Whether a stand is a spot of the box, its edges included."""
    return stand != LOST and box[0] <= stand[0] <= box[2] and box[1] <= stand[1] <= box[3]


def is_done_by(aim, doubt):
    """Whether the doubt is done, for values that are surely such."""
    if aim[0] == "reach":
        return all([lies_within(stand, aim[1][index]) for index, stand in doubt])
    return len(set([aim[1][index] for index, _ in doubt])) == 1


def are_branches(thing, start, many):
    """Whether it is a tuple of pairs of unlike feels and numbers from start to many - 1."""
    if not isinstance(thing, tuple) or not all([isinstance(pair, tuple) and len(pair) == 2 for pair in thing]):
        return False
    if not all([is_senses(felt) and is_index(number, many) and number >= start for felt, number in thing]):
        return False
    return len(set([felt for felt, number in thing])) == len(thing)


def is_step(thing, own, many):
    if thing == DONE:
        return True
    if not isinstance(thing, tuple) or len(thing) != 2:
        return False
    return is_move(thing[0]) and are_branches(thing[1], own + 1, many)


def is_course(thing):
    """Whether any value has the form of a plan."""
    if not isinstance(thing, tuple) or len(thing) != 2:
        return False
    begin, steps = thing
    if not isinstance(steps, tuple) or len(steps) == 0 or not are_branches(begin, 0, len(steps)):
        return False
    return all([is_step(step, k, len(steps)) for k, step in enumerate(steps)])


def table_of(branches):
    return {felt: number for felt, number in branches}


def does_serve(field, aim, course, senses):
    """Whether what has the form of a plan serves the cases and the aim."""
    begin, steps = course
    waiting = [(table_of(begin).get(felt), doubt) for felt, doubt in first_of(field, senses).items()]
    met = {pair: True for pair in waiting}
    while waiting:
        number, doubt = waiting.pop()
        if number is None:
            return False
        if steps[number] == DONE:
            if not is_done_by(aim, doubt):
                return False
            continue
        move, branches = steps[number]
        table = table_of(branches)
        for felt, answer in answers_of(field, doubt, MOVES.index(move), senses).items():
            pair = (table.get(felt), answer)
            if pair not in met:
                met[pair] = True
                waiting.append(pair)
    return True


def is_plan_for(drawing, cases, aim, thing, senses):
    """is_plan, for values other than thing that are surely such."""
    return is_course(thing) and does_serve(Field(drawing, cases), aim, thing, senses)


def moves_with(field, index, course, senses):
    """How many moves a plan that serves makes with one of the cases."""
    begin, steps = course
    body, stand = field.cases[index]
    felt = feel_at(field.boxes[body], stand, senses)
    number = table_of(begin)[felt]
    many = 0
    while steps[number] != DONE:
        move, branches = steps[number]
        felt, stand = moves_from(field, index, stand)[MOVES.index(move)]
        number = table_of(branches)[told_by(felt, senses)]
        many += 1
    return many


def by_first(pairs):
    """The pairs (doubt, number), found by the first pair of the doubt."""
    found = {}
    for doubt, number in pairs:
        found.setdefault(doubt[0], []).append((doubt, number))
    return found


def has_one(found, doubt, least):
    """Whether the doubt has one of those found, with this number or a greater one."""
    parts = {part: True for part in doubt}
    return any([
        number >= least and all([part in parts for part in inner])
        for part in doubt for inner, number in found.get(part, [])
    ])


def has_answers(field, found, doubt, least, senses):
    """Whether each move of the doubt has an answer that has one of those found."""
    return all([
        any([has_one(found, answer, least) for answer in answers_of(field, doubt, number, senses).values()])
        for number in range(len(MOVES))
    ])


def are_open_doubts(drawing, cases, aim, thing):
    """Whether it is a list of different doubts, none of them done."""
    if not all([is_doubt(drawing, cases, doubt) for doubt in thing]) or len(set(thing)) != len(thing):
        return False
    return not any([is_done_by(aim, doubt) for doubt in thing])


def are_ranks_of(drawing, cases, aim, thing, senses):
    """are_ranks, for values other than thing that are surely such."""
    if not isinstance(thing, tuple) or not all([isinstance(pair, tuple) and len(pair) == 2 for pair in thing]):
        return False
    if not all([is_number(pair[1]) and pair[1] >= 1 for pair in thing]):
        return False
    if not are_open_doubts(drawing, cases, aim, [pair[0] for pair in thing]):
        return False
    field = Field(drawing, cases)
    found = by_first(thing)
    return all([
        number == 1 or has_answers(field, found, doubt, number - 1, senses) for doubt, number in thing
    ])


def check_aim(cases, aim):
    if not is_aim_for(len(cases), aim):
        raise BadAim("an aim is a box or a label for each case")


def check_aimed(drawing, cases, aim):
    """Refuse the first three parameters of many functions, in their order."""
    check_drawing(drawing)
    check_cases(drawing, cases)
    check_aim(cases, aim)


def check_doubt(drawing, cases, doubt):
    if not is_doubt(drawing, cases, doubt):
        raise BadDoubt("a doubt is an ascending tuple of indexes of cases with stands")


def first_doubts(drawing, cases, senses=SENSES):
    """The doubts of the cases that feel the same at first, by what they feel."""
    check_drawing(drawing)
    check_cases(drawing, cases)
    check_senses(senses)
    return first_of(Field(drawing, cases), senses)


def answers(drawing, cases, doubt, move, senses=SENSES):
    """The doubts behind the move, by what is felt there."""
    check_drawing(drawing)
    check_cases(drawing, cases)
    check_doubt(drawing, cases, doubt)
    check_move(move)
    check_senses(senses)
    return answers_of(Field(drawing, cases), doubt, MOVES.index(move), senses)


def is_aim(cases, thing):
    """Whether any value is an aim for a list of as many cases."""
    if not is_list(cases) or len(cases) == 0:
        raise BadCases("cases are a list of one or more cases")
    return is_aim_for(len(cases), thing)


def is_done(drawing, cases, aim, doubt):
    """Whether the doubt is done."""
    check_aimed(drawing, cases, aim)
    check_doubt(drawing, cases, doubt)
    return is_done_by(aim, doubt)


def is_plan(drawing, cases, aim, thing, senses=SENSES):
    """Whether any value is a plan that serves."""
    check_aimed(drawing, cases, aim)
    check_senses(senses)
    return is_plan_for(drawing, cases, aim, thing, senses)


def most_moves(drawing, cases, aim, course, senses=SENSES):
    """The most moves that a plan makes with one of the cases."""
    check_aimed(drawing, cases, aim)
    check_senses(senses)
    if not is_plan_for(drawing, cases, aim, course, senses):
        raise BadPlan("no plan that serves")
    field = Field(drawing, cases)
    return max([moves_with(field, index, course, senses) for index in range(len(cases))])


def is_closed(drawing, cases, aim, thing, senses=SENSES):
    """Whether any value is a closed table: no plan leads out of its doubts."""
    check_aimed(drawing, cases, aim)
    check_senses(senses)
    if not isinstance(thing, tuple) or not are_open_doubts(drawing, cases, aim, thing):
        return False
    field = Field(drawing, cases)
    found = by_first([(doubt, 1) for doubt in thing])
    if not any([has_one(found, doubt, 1) for doubt in first_of(field, senses).values()]):
        return False
    return all([has_answers(field, found, doubt, 1, senses) for doubt in thing])


def are_ranks(drawing, cases, aim, thing, senses=SENSES):
    """Whether any value is ranks: doubts that so many moves do not get done."""
    check_aimed(drawing, cases, aim)
    check_senses(senses)
    return are_ranks_of(drawing, cases, aim, thing, senses)


def shown(drawing, cases, aim, table, senses=SENSES):
    """The greatest number of ranks whose doubt some first doubt has; 0 if there is none."""
    check_aimed(drawing, cases, aim)
    check_senses(senses)
    if not are_ranks_of(drawing, cases, aim, table, senses):
        raise BadRanks("no ranks")
    firsts = list(first_of(Field(drawing, cases), senses).values())
    return max([
        number for doubt, number in table
        if any([has_one(by_first([(doubt, number)]), first, 1) for first in firsts])
    ], default=0)
