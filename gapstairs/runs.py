"""Runs of programs, and ledgers that show what they come to (point 84)."""

from gapstairs.checks import is_number, is_number_pair
from gapstairs.chambers import check_free
from gapstairs.errors import BadMost
from gapstairs.fits import barred_boxes, check_at, is_free
from gapstairs.programs import check_program
from gapstairs.touching import go, is_side, is_touching, slide

MOST_MOVES = 10000
NEVER = ("never",)


def code_of(rows, start):
    """The rows, the first of which stands at start, as a plain list with tests and jumps for "if" and "while"."""
    code = []
    for row in rows:
        at = start + len(code)
        if row[0] == "if":
            first = code_of(row[2], at + 1)
            other = at + len(first) + 2
            second = code_of(row[3], other)
            code.extend([("test", row[1], other)] + first + [("jump", other + len(second))] + second)
        elif row[0] == "while":
            inner = code_of(row[2], at + 1)
            code.extend([("test", row[1], at + len(inner) + 2)] + inner + [("jump", at)])
        else:
            code.append(row)
    return code


def codes_of(program):
    return {name: code_of(rows, 0) for name, rows in program.procedures}


class Frame:
    """A procedure that is being done: where it is, and where the body stands."""

    def __init__(self, key):
        self.key = key
        self.at = 0
        self.spot = key[1]
        self.seen = {}
        self.moved = False


def step(boxes, frame, row):
    """Do a row that is no call; the outcome if it is the last one, otherwise None."""
    frame.at += 1
    if row[0] == "jump":
        frame.at = row[1]
    elif row[0] == "test":
        state = (frame.at, frame.spot)
        # What comes next hangs on nothing else: so it has come to the same before.
        if state in frame.seen:
            return NEVER
        frame.seen[state] = True
        if not is_touching(boxes, frame.spot, row[1]):
            frame.at = row[2]
    else:
        there = go(boxes, frame.spot, row[1]) if row[0] == "go" else slide(boxes, frame.spot, row[1], row[2])
        if there is None:
            return ("lost", row[1])
        frame.spot = there
        frame.moved = True
    return None


def advance(codes, boxes, frame):
    """Go on to the next call, which is told, or to the outcome."""
    code = codes[frame.key[0]]
    while frame.at < len(code):
        row = code[frame.at]
        if row[0] == "call":
            return row
        told = step(boxes, frame, row)
        if told is not None:
            return told
    return ("ends", frame.spot)


def settle_all(found, stack, back):
    """Settle a stack of procedures the last of which calls the one at the index back: none ever ends."""
    moved = any([frame.moved for frame in stack[back:]])
    for k in reversed(range(len(stack))):
        frame = stack[k]
        moved = moved or frame.moved
        found[frame.key] = (NEVER, None, moved)


def solve(codes, boxes, key):
    """The dict from all calls (name, spot) of the run of key to triples: outcome, rank, whether it moves."""
    found = {}
    stack = [Frame(key)]
    waiting = {key: 0}
    while stack:
        frame = stack[-1]
        told = advance(codes, boxes, frame)
        if told[0] == "call":
            asked = (told[1], frame.spot)
            if asked in waiting and asked not in found:
                settle_all(found, stack, waiting[asked])
                return found
            if asked not in found:
                waiting[asked] = len(stack)
                stack.append(Frame(asked))
                continue
            told, _, moved = found[asked]
            frame.moved = frame.moved or moved
            if told[0] == "ends":
                frame.spot = told[1]
                frame.at += 1
                continue
        # What is settled later has the higher rank.
        found[frame.key] = (told, None if told == NEVER else len(found), frame.moved)
        stack.pop()
    return found


def outcome_of(codes, drawing, body, spot, first):
    """The outcome of the run, for values that are surely such."""
    key = (first, spot)
    return solve(codes, barred_boxes(drawing, body), key)[key][0]


def follow(codes, boxes, found, key, most):
    """The list of the first spots of the run, by what solve has found."""
    spots = [key[1]]
    stack = [Frame(key)]
    while stack and len(spots) <= most:
        frame = stack[-1]
        code = codes[frame.key[0]]
        if frame.at == len(code):
            stack.pop()
            if stack:
                caller = stack[-1]
                caller.spot = frame.spot
                caller.at += 1
                caller.seen = {}
        elif code[frame.at][0] == "call":
            asked = (code[frame.at][1], frame.spot)
            outcome, _, moved = found[asked]
            if moved:
                stack.append(Frame(asked))
            elif outcome[0] == "ends":
                frame.at += 1
            else:
                return spots
        else:
            if step(boxes, frame, code[frame.at]) is not None:
                return spots
            if frame.moved:
                spots.append(frame.spot)
                frame.moved = False
                # Only rows that are done again without a move between them lead to no move.
                frame.seen = {}
    return spots


def check_run(drawing, body, spot, program):
    check_at(drawing, body, spot)
    check_program(program)
    check_free(drawing, body, [spot])


def run(drawing, body, spot, program):
    """The outcome of the run from the spot."""
    check_run(drawing, body, spot, program)
    return outcome_of(codes_of(program), drawing, body, spot, program.first)


def trail(drawing, body, spot, program, most):
    """The list of the spot and of the first spots to which goes and slides of the run lead."""
    check_at(drawing, body, spot)
    check_program(program)
    if not is_number(most) or not 0 <= most <= MOST_MOVES:
        raise BadMost("most is a number from 0 to 10000")
    check_free(drawing, body, [spot])
    codes = codes_of(program)
    boxes = barred_boxes(drawing, body)
    key = (program.first, spot)
    return follow(codes, boxes, solve(codes, boxes, key), key, most)


def ledger(drawing, body, spot, program):
    """The ledger of just the calls that the run comes to."""
    check_run(drawing, body, spot, program)
    found = solve(codes_of(program), barred_boxes(drawing, body), (program.first, spot))
    return {key: found[key][:2] for key in sorted(list(found))}


def is_key(drawing, body, program, thing):
    """Whether it is a pair of the name of a procedure and a spot that fits."""
    if not isinstance(thing, tuple) or len(thing) != 2 or thing[0] not in program:
        return False
    return is_number_pair(thing[1]) and is_free(drawing, body, thing[1])


def is_outcome(drawing, body, thing):
    """Whether any value is an outcome, with a spot that fits if it ends."""
    if not isinstance(thing, tuple) or len(thing) == 0:
        return False
    if thing[0] == "ends" and len(thing) == 2:
        return is_number_pair(thing[1]) and is_free(drawing, body, thing[1])
    if thing[0] == "lost" and len(thing) == 2:
        return is_side(thing[1])
    return thing == NEVER


def is_entry(drawing, body, thing):
    """Whether any value is a pair of an outcome and a rank, None for what never ends and for nothing else."""
    if not isinstance(thing, tuple) or len(thing) != 2 or not is_outcome(drawing, body, thing[0]):
        return False
    if thing[0] == NEVER:
        return thing[1] is None
    return is_number(thing[1]) and thing[1] >= 0


def walked(codes, boxes, key, table):
    """A pair of the outcome of the walk of the key by the table, and the list of the keys that it asks for.

    None if it asks for what is no key of the table.
    """
    frame = Frame(key)
    asked = []
    told = advance(codes, boxes, frame)
    while told[0] == "call":
        wanted = (told[1], frame.spot)
        if wanted not in table:
            return None
        asked.append(wanted)
        outcome = table[wanted][0]
        if outcome[0] != "ends":
            return (outcome, asked)
        frame.spot = outcome[1]
        frame.at += 1
        told = advance(codes, boxes, frame)
    return (told, asked)


def bears_out(codes, boxes, key, table):
    """Whether the walk of the key comes to what the table has for it, and asks only for lesser ranks."""
    walk = walked(codes, boxes, key, table)
    outcome, rank = table[key]
    if walk is None or walk[0] != outcome:
        return False
    if outcome == NEVER:
        return True
    # What a walk asks for that comes to an end, or is lost, has a rank.
    return all([table[other][1] < rank for other in walk[1]])


def is_ledger(drawing, body, spot, program, thing):
    """Whether any value is a ledger of the program from the spot."""
    check_run(drawing, body, spot, program)
    if not isinstance(thing, dict) or not all([is_key(drawing, body, program, key) for key in thing]):
        return False
    if not all([is_entry(drawing, body, entry) for entry in list(thing.values())]):
        return False
    if (program.first, spot) not in thing:
        return False
    codes = codes_of(program)
    boxes = barred_boxes(drawing, body)
    return all([bears_out(codes, boxes, key, thing) for key in thing])
