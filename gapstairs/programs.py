"""Programs of bodies that only feel what they touch (point 83)."""

from gapstairs.checks import is_list
from gapstairs.errors import BadFirst, BadProcedures, BadProgram, Circular, TooMany
from gapstairs.touching import SIDES, check_side, is_across, is_side, left_turn, right_turn

MOST_ROWS = 400
MOST_DEEP = 8
MOST_PROCEDURES = 99
LONGEST_NAME = 12
LETTERS = "abcdefghijklmnopqrstuvwxyz"
SIGNS = "abcdefghijklmnopqrstuvwxyz0123456789"
FLIPPED = {"left": "down", "down": "left", "right": "up", "up": "right"}


def is_procedure_name(thing):
    """Whether any value is a procedure name."""
    if not isinstance(thing, str) or not 1 <= len(thing) <= LONGEST_NAME:
        return False
    return thing[0] in LETTERS and all([sign in SIGNS for sign in thing])


def is_row(thing, names, deep):
    """Whether any value is a row that stands so deep and calls only these names."""
    if not isinstance(thing, tuple) or len(thing) < 2:
        return False
    word = thing[0]
    if word == "call":
        return len(thing) == 2 and isinstance(thing[1], str) and thing[1] in names
    if not is_side(thing[1]):
        return False
    if word == "slide":
        return len(thing) == 3 and is_across(thing[1], thing[2])
    if word == "if":
        return len(thing) == 4 and all([are_rows(inner, names, deep + 1) for inner in thing[2:]])
    if word == "while":
        return len(thing) == 3 and are_rows(thing[2], names, deep + 1)
    return word == "go" and len(thing) == 2


def are_rows(thing, names, deep):
    """Whether any value is a list of rows that stand so deep, and not too deep."""
    if not is_list(thing):
        return False
    if len(thing) > 0 and deep > MOST_DEEP:
        return False
    return all([is_row(row, names, deep) for row in thing])


def rows_within(row):
    """The list of the lists of rows that stand within a row."""
    return list(row[2:]) if row[0] in ("if", "while") else []


def flat(rows):
    """The list of all rows, those within rows too."""
    return [
        part for row in rows
        for part in [row] + [deeper for inner in rows_within(row) for deeper in flat(inner)]
    ]


def are_procedures(thing):
    """Whether any value is a dict from names to rows as a Program has it."""
    if not isinstance(thing, dict) or not 1 <= len(thing) <= MOST_PROCEDURES:
        return False
    if not all([is_procedure_name(name) for name in thing]):
        return False
    if not all([are_rows(rows, thing, 1) for rows in list(thing.values())]):
        return False
    return sum([len(flat(rows)) for rows in list(thing.values())]) <= MOST_ROWS


def settled(rows):
    """The rows with tuples in the place of all lists."""
    return tuple([
        row[:2] + tuple([settled(inner) for inner in row[2:]]) if row[0] in ("if", "while") else row
        for row in rows
    ])


class Program:
    """Procedures of rows, and the name of the one that is done first."""

    def __init__(self, procedures, first):
        if not are_procedures(procedures):
            raise BadProcedures("procedures are a dict from names to rows")
        if not isinstance(first, str) or first not in procedures:
            raise BadFirst("first is the name of a procedure")
        self.procedures = tuple([(name, settled(procedures[name])) for name in sorted(list(procedures))])
        self.first = first

    def __eq__(self, other):
        return isinstance(other, Program) and self.procedures == other.procedures and self.first == other.first

    def __len__(self):
        return len([row for name, rows in self.procedures for row in flat(rows)])

    def __contains__(self, x):
        return isinstance(x, str) and x in [name for name, rows in self.procedures]


def check_program(program):
    if not isinstance(program, Program):
        raise BadProgram("program is a Program")


def rows_by_name(program):
    return {name: rows for name, rows in program.procedures}


def flipped_row(row):
    if row[0] == "call":
        return row
    if row[0] == "slide":
        return ("slide", FLIPPED[row[1]], FLIPPED[row[2]])
    return (row[0], FLIPPED[row[1]]) + tuple([flipped_rows(inner) for inner in row[2:]])


def flipped_rows(rows):
    return tuple([flipped_row(row) for row in rows])


def flipped_program(program):
    """The Program for drawings with x and y exchanged."""
    check_program(program)
    return Program({name: flipped_rows(rows) for name, rows in program.procedures}, program.first)


def calls_in(rows):
    """The list of the names of all calls in the rows."""
    return [row[1] for row in flat(rows) if row[0] == "call"]


def called_from(table, start):
    """The list of the names to which calls lead from a procedure."""
    found = []
    waiting = [start]
    while waiting:
        here = waiting.pop()
        for name in calls_in(table[here]):
            if name not in found:
                found.append(name)
                waiting.append(name)
    return found


def circular(program):
    """The ascending list of the names of the procedures that calls lead back to."""
    check_program(program)
    table = rows_by_name(program)
    return [name for name in table if name in called_from(table, name)]


def callees_first(table, names):
    """The list of the names, none of them circular, each behind those that it calls."""
    waiting = {name: calls_in(table[name]) for name in names}
    done = {}
    while len(done) < len(waiting):
        for name in names:
            if name not in done and all([callee in done for callee in waiting[name]]):
                done[name] = True
    return list(done)


def depth_of(rows, depths):
    """How deep the rows go if each call is as deep as told."""
    found = 0
    for row in rows:
        if row[0] == "call":
            found = max(found, depths[row[1]])
        else:
            found = max([found] + [1 + depth_of(inner, depths) for inner in rows_within(row)] + [1])
    return found


def inlined_rows(rows, known):
    """The rows with known rows in the place of each call."""
    found = []
    for row in rows:
        if row[0] == "call":
            found.extend(list(known[row[1]]))
        elif row[0] in ("if", "while"):
            found.append(row[:2] + tuple([inlined_rows(inner, known) for inner in row[2:]]))
        else:
            found.append(row)
    return tuple(found)


def inlined(program):
    """The Program of one procedure, without calls, that comes to the same."""
    check_program(program)
    table = rows_by_name(program)
    names = sorted(set(called_from(table, program.first) + [program.first]))
    if any([name in called_from(table, name) for name in names]):
        raise Circular("a procedure comes to call itself")
    order = callees_first(table, names)
    sizes = {}
    depths = {}
    for name in order:
        sizes[name] = sum([sizes[row[1]] if row[0] == "call" else 1 for row in flat(table[name])])
        depths[name] = depth_of(table[name], depths)
    if sizes[program.first] > MOST_ROWS:
        raise TooMany(MOST_ROWS)
    if depths[program.first] > MOST_DEEP:
        raise TooMany(MOST_DEEP)
    known = {}
    for name in order:
        known[name] = inlined_rows(table[name], known)
    return Program({program.first: known[program.first]}, program.first)


def new_name(table):
    """A procedure name that the table does not have."""
    k = 0
    while f"w{k}" in table:
        k += 1
    return f"w{k}"


def unlooped_rows(rows, table):
    """The rows with a call in the place of each "while" row; its procedure is put into the table."""
    found = []
    for row in rows:
        if row[0] == "while":
            name = new_name(table)
            # The name is taken before the rows within look for names of their own.
            table[name] = ()
            again = unlooped_rows(row[2], table) + (("call", name),)
            table[name] = (("if", row[1], again, ()),)
            found.append(("call", name))
        elif row[0] == "if":
            found.append(row[:2] + (unlooped_rows(row[2], table), unlooped_rows(row[3], table)))
        else:
            found.append(row)
    return tuple(found)


def unlooped(program):
    """A Program without "while" rows that comes to the same."""
    check_program(program)
    loops = len([row for name, rows in program.procedures for row in flat(rows) if row[0] == "while"])
    if len(program.procedures) + loops > MOST_PROCEDURES:
        raise TooMany(MOST_PROCEDURES)
    if len(program) + 2 * loops > MOST_ROWS:
        raise TooMany(MOST_ROWS)
    table = rows_by_name(program)
    for name, rows in program.procedures:
        table[name] = unlooped_rows(rows, table)
    return Program(table, program.first)


def escape_rows(side):
    """The rows that slide along at the right hand, and turn to the left at an inner corner."""
    behind = right_turn(side)
    ahead = (("call", left_turn(side)), ("call", side))
    return (("slide", behind, side), ("if", behind, ahead, ()))


def escape_program(side):
    """The Program that leads all bodies out, wherever that can be."""
    check_side(side)
    table = {turn: escape_rows(turn) for turn in SIDES}
    table["out"] = (("go", side), ("call", left_turn(side)), ("call", "out"))
    return Program(table, "out")
