"""Texts of programs (point 86)."""

from gapstairs.errors import BadProgramText
from gapstairs.programs import MOST_DEEP, MOST_PROCEDURES, MOST_ROWS, Program, check_program, is_procedure_name
from gapstairs.touching import is_across, is_side


def lines_of(rows):
    """The list of the lines of rows."""
    found = []
    for row in rows:
        if row[0] == "if":
            found.extend(["if " + row[1]] + lines_of(row[2]) + ["else"] + lines_of(row[3]) + ["end"])
        elif row[0] == "while":
            found.extend(["while " + row[1]] + lines_of(row[2]) + ["end"])
        else:
            found.append(" ".join(row))
    return found


def program_text(program):
    """The text of the program."""
    check_program(program)
    lines = ["first " + program.first]
    for name, rows in program.procedures:
        lines.extend(["to " + name] + lines_of(rows) + ["done"])
    return "\n".join(lines)


class Part:
    """A procedure, or a row with rows in it, that is being read."""

    def __init__(self, words):
        self.words = words
        self.lists = [[]]


class Reader:
    """What has been read of a text so far."""

    def __init__(self):
        self.first = None
        self.wanted = {}
        self.table = {}
        self.latest = ""
        self.parts = []
        self.many = 0


def may_want(reader, name):
    """Whether the procedure of a name stands, or can still come; it is wanted then."""
    if not is_procedure_name(name):
        return False
    if name not in reader.table and name != reader.latest:
        # Procedures ascend: what is not ahead of the latest one cannot come any more.
        if name < reader.latest:
            return False
        reader.wanted[name] = True
    return len(reader.table) + len(reader.wanted) + len(reader.parts[:1]) <= MOST_PROCEDURES


def take_first(reader, words):
    if len(words) != 2 or words[0] != "first" or not may_want(reader, words[1]):
        return False
    reader.first = words[1]
    return True


def take_head(reader, words):
    """Take the line with which a procedure begins."""
    if len(words) != 2 or words[0] != "to" or not is_procedure_name(words[1]) or words[1] <= reader.latest:
        return False
    name = words[1]
    reader.wanted = {other: True for other in reader.wanted if other != name}
    if any([other < name for other in reader.wanted]):
        return False
    reader.latest = name
    reader.parts.append(Part(words))
    return len(reader.table) + 1 + len(reader.wanted) <= MOST_PROCEDURES


def take_mark(reader, words):
    """Take a line by which the part that is being read goes on or ends."""
    part = reader.parts[-1]
    head = part.words[0]
    if words == ["else"] and head == "if" and len(part.lists) == 1:
        part.lists.append([])
        return True
    if words == ["done"] and head == "to":
        reader.table[part.words[1]] = part.lists[0]
        reader.parts.pop()
        return True
    if words == ["end"] and (head == "while" or head == "if" and len(part.lists) == 2):
        reader.parts.pop()
        reader.parts[-1].lists[-1].append(tuple(part.words + part.lists))
        return True
    return False


def take_row(reader, words):
    """Take the first line of a row."""
    reader.many += 1
    if reader.many > MOST_ROWS or len(reader.parts) > MOST_DEEP or len(words) < 2:
        return False
    word = words[0]
    if word in ("if", "while"):
        reader.parts.append(Part(words))
        return len(words) == 2 and is_side(words[1])
    reader.parts[-1].lists[-1].append(tuple(words))
    if word == "call":
        return len(words) == 2 and may_want(reader, words[1])
    if word == "slide":
        return len(words) == 3 and is_side(words[1]) and is_across(words[1], words[2])
    return word == "go" and len(words) == 2 and is_side(words[1])


def take(reader, line):
    """Take one line more; whether some Program still has a text that begins so."""
    words = line.split(" ")
    if reader.first is None:
        return take_first(reader, words)
    if reader.parts == []:
        return take_head(reader, words)
    if words[0] in ("else", "end", "done"):
        return take_mark(reader, words)
    return take_row(reader, words)


def read_program(text):
    """The Program whose text it is."""
    if not isinstance(text, str):
        raise BadProgramText(0)
    lines = text.split("\n")
    reader = Reader()
    for k, line in enumerate(lines):
        if not take(reader, line):
            raise BadProgramText(k)
    if reader.parts != [] or reader.wanted != {}:
        raise BadProgramText(len(lines))
    return Program(reader.table, reader.first)
