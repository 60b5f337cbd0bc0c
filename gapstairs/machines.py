"""What bodies feel behind their moves, and the machines that tell it (point 90)."""

from gapstairs.bodies import is_body
from gapstairs.checks import is_index, is_list, is_number_pair, is_rising
from gapstairs.drawings import check_drawing
from gapstairs.errors import BadCase, BadMachine, BadMove, BadRow, BadSenses
from gapstairs.fits import barred_boxes, is_free
from gapstairs.touching import go, is_touching, slide

MOVES = (
    ("go", "left"), ("go", "down"), ("go", "right"), ("go", "up"),
    ("slide", "left", "down"), ("slide", "left", "up"), ("slide", "down", "left"), ("slide", "down", "right"),
    ("slide", "right", "down"), ("slide", "right", "up"), ("slide", "up", "left"), ("slide", "up", "right"),
)
SENSES = ("left", "down", "right", "up", "lost")
LOST = ()


def is_stand(drawing, body, thing):
    """Whether any value is a spot at which the body fits, or LOST."""
    return thing == LOST or is_number_pair(thing) and is_free(drawing, body, thing)


def is_case_of(drawing, thing):
    """Whether any value is a case, the drawing surely being one."""
    if not isinstance(thing, tuple) or len(thing) != 2 or not is_body(thing[0]):
        return False
    return is_stand(drawing, thing[0], thing[1])


def is_move(thing):
    """Whether any value is a move."""
    return thing in MOVES


def is_move_row(thing):
    """Whether any value is a list of moves."""
    return is_list(thing) and all([is_move(move) for move in thing])


def is_senses(thing):
    """Whether any value is a tuple of some of SENSES in their order."""
    if not isinstance(thing, tuple) or not all([isinstance(sense, str) and sense in SENSES for sense in thing]):
        return False
    return is_rising([SENSES.index(sense) for sense in thing])


def check_case(drawing, case):
    if not is_case_of(drawing, case):
        raise BadCase("a case is a pair of a body and a stand of it")


def check_move(move):
    if not is_move(move):
        raise BadMove("a move is one of MOVES")


def check_row(row):
    if not is_move_row(row):
        raise BadRow("a row is a list of moves")


def check_senses(senses):
    if not is_senses(senses):
        raise BadSenses("senses are a tuple of some of SENSES in their order")


def check_case_here(drawing, case):
    """Refuse the first two parameters of many functions, in their order."""
    check_drawing(drawing)
    check_case(drawing, case)


def stand_behind(boxes, stand, move):
    """The stand behind a move, among the barred boxes."""
    if stand == LOST:
        return LOST
    if move[0] == "slide":
        return slide(boxes, stand, move[1], move[2])
    there = go(boxes, stand, move[1])
    return LOST if there is None else there


def feel_at(boxes, stand, senses):
    """What is felt at a stand, among the barred boxes."""
    if stand == LOST:
        return tuple([sense for sense in senses if sense == "lost"])
    return tuple([sense for sense in senses if sense != "lost" and is_touching(boxes, stand, sense)])


def feels_along(boxes, stand, row, senses):
    """The list of what is felt at the stand and behind each move of the row."""
    found = [feel_at(boxes, stand, senses)]
    here = stand
    for move in row:
        here = stand_behind(boxes, here, move)
        found.append(feel_at(boxes, here, senses))
    return found


def goals_from(boxes, stand):
    """The dict from each stand to which rows lead, as they are met, to the list of those behind its moves."""
    found = {}
    waiting = [stand]
    met = {stand: True}
    k = 0
    while k < len(waiting):
        here = waiting[k]
        k += 1
        found[here] = [stand_behind(boxes, here, move) for move in MOVES]
        for there in found[here]:
            if there not in met:
                met[there] = True
                waiting.append(there)
    return found


def machine_of(drawing, case, senses):
    """The machine of a value that is surely a case."""
    boxes = barred_boxes(drawing, case[0])
    goals = goals_from(boxes, case[1])
    index = {stand: k for k, stand in enumerate(list(goals))}
    return tuple([
        (feel_at(boxes, stand, senses), tuple([index[goal] for goal in goals[stand]])) for stand in goals
    ])


def is_machine_pair(thing, many):
    if not isinstance(thing, tuple) or len(thing) != 2 or not is_senses(thing[0]):
        return False
    goals = thing[1]
    return isinstance(goals, tuple) and len(goals) == len(MOVES) and all([is_index(goal, many) for goal in goals])


def numbered(keys):
    """The list with one number for each key, equal ones for equal keys."""
    numbers = {}
    return [numbers.setdefault(key, len(numbers)) for key in keys]


def finer(pairs, classes):
    """The classes of pairs that are in one class and lead, by each move, to one class."""
    return numbered([
        (classes[k],) + tuple([classes[goal] for goal in pair[1]]) for k, pair in enumerate(pairs)
    ])


def parted(pairs, most):
    """The classes of pairs that feel the same by all rows of at most so many moves; None for all rows."""
    classes = numbered([pair[0] for pair in pairs])
    many = 0
    moves = 0
    # Once one more move parts nothing, further ones do not either.
    while many < max(classes) + 1 and moves != most:
        many = max(classes) + 1
        moves += 1
        classes = finer(pairs, classes)
    return classes


def least_of(pairs):
    """least_machine of a value that is surely a machine."""
    classes = parted(pairs, None)
    numbers = {classes[0]: 0}
    met = [0]
    k = 0
    while k < len(met):
        here = met[k]
        k += 1
        for goal in pairs[here][1]:
            if classes[goal] not in numbers:
                numbers[classes[goal]] = len(met)
                met.append(goal)
    return tuple([
        (pairs[k][0], tuple([numbers[classes[goal]] for goal in pairs[k][1]])) for k in met
    ])


def is_case(drawing, thing):
    """Whether any value is a case: a body and a stand of it."""
    check_drawing(drawing)
    return is_case_of(drawing, thing)


def behind(drawing, case, move):
    """The case of the same body behind the move."""
    check_case_here(drawing, case)
    check_move(move)
    return (case[0], stand_behind(barred_boxes(drawing, case[0]), case[1], move))


def feel(drawing, case, senses=SENSES):
    """The tuple of what the case feels."""
    check_case_here(drawing, case)
    check_senses(senses)
    return feel_at(barred_boxes(drawing, case[0]), case[1], senses)


def feels(drawing, case, row, senses=SENSES):
    """The list of what is felt at first and behind each move of the row."""
    check_case_here(drawing, case)
    check_row(row)
    check_senses(senses)
    return feels_along(barred_boxes(drawing, case[0]), case[1], row, senses)


def stands(drawing, case):
    """The list of all stands to which rows lead, as they are met."""
    check_case_here(drawing, case)
    return list(goals_from(barred_boxes(drawing, case[0]), case[1]))


def machine(drawing, case, senses=SENSES):
    """The tuple of what is felt at each stand, with the indexes of the stands behind the moves."""
    check_case_here(drawing, case)
    check_senses(senses)
    return machine_of(drawing, case, senses)


def is_machine(thing):
    """Whether any value is a machine."""
    if not isinstance(thing, tuple) or len(thing) == 0:
        return False
    return all([is_machine_pair(pair, len(thing)) for pair in thing])


def least_machine(pairs):
    """The machine with the fewest pairs by which each row feels the same."""
    if not is_machine(pairs):
        raise BadMachine("a machine is a tuple of pairs of what is felt and twelve indexes")
    return least_of(pairs)
