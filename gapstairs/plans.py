"""Plans with the fewest moves, and what bars them (point 94)."""

from itertools import combinations

from gapstairs.doubts import (
    DONE, Field, answers_of, check_aimed, first_of, is_course, is_done_by,
)
from gapstairs.errors import BadPlan, TooMany
from gapstairs.machines import MOVES, SENSES, check_senses
from gapstairs.partings import check_number
from gapstairs.programs import Program
from gapstairs.touching import SIDES

MOST_DOUBTS = 2000
MOST_STEPS = 98
MOST_PAIRS = 150


class Search:
    """The doubts that come, what each move answers to them, and which of them get done in how many moves."""

    def __init__(self, field, aim, senses):
        self.firsts = first_of(field, senses)
        self.answers = {}
        self.levels = {}
        self.choices = {}
        waiting = list(self.firsts.values())
        met = {doubt: True for doubt in waiting}
        while waiting:
            doubt = waiting.pop()
            if is_done_by(aim, doubt):
                self.levels[doubt] = 0
                continue
            told = [answers_of(field, doubt, number, senses) for number in range(len(MOVES))]
            self.answers[doubt] = told
            for answer in [answer for table in told for answer in table.values()]:
                if answer not in met:
                    met[answer] = True
                    waiting.append(answer)
            if len(met) > MOST_DOUBTS:
                raise TooMany(MOST_DOUBTS)


def asking(search):
    """The dict from each doubt to the list of the pairs (doubt, number of a move) that it answers."""
    found = {}
    for doubt, told in search.answers.items():
        for number, table in enumerate(told):
            for answer in table.values():
                found.setdefault(answer, []).append((doubt, number))
    return found


def find_levels(search):
    """Find for each doubt that gets done the fewest moves, and the first move of so many."""
    users = asking(search)
    left = {
        (doubt, number): len(table) for doubt, told in search.answers.items() for number, table in enumerate(told)
    }
    rim = list(search.levels)
    level = 0
    while rim:
        level += 1
        fresh = {}
        for pair in [pair for answer in rim for pair in users.get(answer, [])]:
            left[pair] -= 1
            if left[pair] == 0 and pair[0] not in search.levels:
                fresh[pair[0]] = min(pair[1], fresh.get(pair[0], pair[1]))
        for doubt, number in fresh.items():
            search.levels[doubt] = level
            search.choices[doubt] = number
        rim = list(fresh)


def searched(field, aim, senses):
    search = Search(field, aim, senses)
    find_levels(search)
    return search


def fewest_of(search):
    """The most moves that are made with one of the cases, if they are as few as can be; None if no plan serves."""
    levels = [search.levels.get(doubt) for doubt in search.firsts.values()]
    return None if None in levels else max(levels)


def needed(search):
    """The list of the doubts that come when the chosen moves are made, with the most moves ahead first."""
    waiting = list(search.firsts.values())
    met = {doubt: True for doubt in waiting}
    while waiting:
        doubt = waiting.pop()
        if doubt in search.choices:
            for answer in search.answers[doubt][search.choices[doubt]].values():
                if answer not in met:
                    met[answer] = True
                    waiting.append(answer)
    levels = search.levels
    return sorted(list(met), key=lambda doubt: (-levels[doubt], doubt))


def branches_to(table, numbers):
    return tuple([(felt, numbers[doubt]) for felt, doubt in table.items()])


def course_of(search):
    """The plan by the chosen moves; all doubts that are done share one step."""
    doubts = needed(search)
    moving = [doubt for doubt in doubts if doubt in search.choices]
    numbers = {doubt: min(k, len(moving)) for k, doubt in enumerate(doubts)}
    steps = [
        (MOVES[search.choices[doubt]], branches_to(search.answers[doubt][search.choices[doubt]], numbers))
        for doubt in moving
    ]
    return (branches_to(search.firsts, numbers), tuple(steps) + (DONE,))


def ranks_to(search, number):
    """Ranks that show the number: each doubt with the fewest moves that get it done, at most the number."""
    if number == 0:
        return ()
    return tuple([
        (doubt, min(number, search.levels.get(doubt, number))) for doubt in sorted(list(search.answers))
    ])


def check_planning(drawing, cases, aim, senses):
    check_aimed(drawing, cases, aim)
    check_senses(senses)


def plan(drawing, cases, aim, senses=SENSES):
    """A plan that serves with the fewest moves; None if none serves."""
    check_planning(drawing, cases, aim, senses)
    search = searched(Field(drawing, cases), aim, senses)
    return None if fewest_of(search) is None else course_of(search)


def least_moves(drawing, cases, aim, senses=SENSES):
    """The fewest moves of a plan that serves; None if none serves."""
    check_planning(drawing, cases, aim, senses)
    return fewest_of(searched(Field(drawing, cases), aim, senses))


def closed_table(drawing, cases, aim, senses=SENSES):
    """A closed table: all doubts that come and never get done; None if some plan serves."""
    check_planning(drawing, cases, aim, senses)
    search = searched(Field(drawing, cases), aim, senses)
    if fewest_of(search) is not None:
        return None
    return tuple(sorted([doubt for doubt in search.answers if doubt not in search.levels]))


def ranks(drawing, cases, aim, number, senses=SENSES):
    """Ranks that show the number; None if there are none."""
    check_aimed(drawing, cases, aim)
    check_number(number)
    check_senses(senses)
    search = searched(Field(drawing, cases), aim, senses)
    most = fewest_of(search)
    return ranks_to(search, number) if most is None or number <= most else None


def is_part(one, other):
    """Whether the senses are a lesser part of the others."""
    return len(one) < len(other) and all([sense in other for sense in one])


def least_senses(drawing, cases, aim):
    """The ascending list of the senses by which some plan serves, but by no lesser part of them."""
    check_aimed(drawing, cases, aim)
    field = Field(drawing, cases)
    serving = [
        senses for many in range(len(SENSES) + 1) for senses in combinations(list(SENSES), many)
        if fewest_of(searched(field, aim, senses)) is not None
    ]
    return sorted([senses for senses in serving if not any([is_part(other, senses) for other in serving])])


def choice(pairs):
    """The rows that call the step of the one of the pairs whose feel is felt."""
    if len(pairs) < 2:
        return tuple([("call", step_name(number)) for felt, number in pairs])
    # Sides that all feels have, or none, tell nothing; others do, whatever else the senses are.
    telling = [side for side in SIDES if len(set([side in felt for felt, number in pairs])) == 2]
    side = telling[0]
    yes = [pair for pair in pairs if side in pair[0]]
    no = [pair for pair in pairs if side not in pair[0]]
    return (("if", side, choice(yes), choice(no)),)


def step_name(number):
    return f"step{number}"


def choice_of(branches):
    """The rows for the branches other than those of what is lost."""
    return choice([pair for pair in branches if "lost" not in pair[0]])


def program_of(course):
    """A Program that does as the plan tells."""
    if not is_course(course):
        raise BadPlan("a plan is a pair of what begins it and its steps")
    begin, steps = course
    if len(steps) > MOST_STEPS:
        raise TooMany(MOST_STEPS)
    moving = {k: step for k, step in enumerate(steps) if step != DONE}
    if len(begin) + sum([len(branches) for move, branches in moving.values()]) > MOST_PAIRS:
        raise TooMany(MOST_PAIRS)
    table = {step_name(k): () for k in range(len(steps))}
    for k, (move, branches) in moving.items():
        table[step_name(k)] = (move,) + choice_of(branches)
    table["begin"] = choice_of(begin)
    return Program(table, "begin")
