import random
import unittest

from gapstairs import progtexts as t
from gapstairs.errors import BadProcedures, BadFirst, BadProgram, BadProgramText
from gapstairs.programs import Program, escape_program
from tests import helpers as h
from tests.test_programs import GO, PROGRAM, nest, random_program


def row_lines(rows):
    found = []
    for row in rows:
        if row[0] == "if":
            found += ["if " + row[1]] + row_lines(row[2]) + ["else"] + row_lines(row[3]) + ["end"]
        elif row[0] == "while":
            found += ["while " + row[1]] + row_lines(row[2]) + ["end"]
        else:
            found.append(" ".join(row))
    return found


def text_of(program):
    lines = ["first " + program.first]
    for name, rows in program.procedures:
        lines += ["to " + name] + row_lines(rows) + ["done"]
    return "\n".join(lines)


def parsed(lines, at, ends):
    """The rows from a line on, up to a line that ends them, and where that line stands."""
    rows = []
    while lines[at] not in ends:
        word, *rest = lines[at].split(" ")
        if word == "if":
            one, at = parsed(lines, at + 1, ["else"])
            other, at = parsed(lines, at + 1, ["end"])
            rows.append(("if", *rest, one, other))
        elif word == "while":
            inner, at = parsed(lines, at + 1, ["end"])
            rows.append(("while", *rest, inner))
        else:
            rows.append((word, *rest))
        at += 1
    return rows, at


def program_in(lines):
    """The Program whose text the lines are; None if they are none: what Program takes, written again."""
    try:
        table = {}
        at = 1
        while at < len(lines):
            rows, end = parsed(lines, at + 1, ["done"])
            table[lines[at][3:]] = rows
            at = end + 1
        program = Program(table, lines[0][6:])
    except (BadProcedures, BadFirst, IndexError):
        return None
    return program if text_of(program) == "\n".join(lines) else None


def completed(lines):
    """The lines with as few as there can be behind them: all is closed, each called name comes."""
    opened = []
    names = []
    called = [lines[0][6:]]
    for line in lines[1:]:
        word = line.split(" ")[0]
        if word == "to":
            opened.append("done")
            names.append(line[3:])
        elif word in ("if", "while"):
            opened.append("else" if word == "if" else "end")
        elif word == "else" and opened:
            opened[-1] = "end"
        elif word in ("end", "done") and opened:
            opened.pop()
        elif word == "call":
            called.append(line[5:])
    more = []
    for word in reversed(opened):
        more += ["else", "end"] if word == "else" else [word]
    for name in sorted(set(called) - set(names)):
        more += ["to " + name, "done"]
    if not names and not more:
        more = ["to a", "done"]
    return lines + more


def good_lines(text):
    lines = text.split("\n")
    good = 0
    while good < len(lines) and program_in(completed(lines[:good + 1])) is not None:
        good += 1
    return good


class ProgramTexts(unittest.TestCase):
    def wrong(self, text, line):
        self.assertEqual(h.fails(self, BadProgramText, t.read_program, text).line, line, text)

    def there_and_back(self, program):
        text = h.ask(self, t.program_text, ["program"], [program])
        self.assertEqual(text, text_of(program))
        self.assertEqual(h.ask(self, t.read_program, ["text"], [text]), program)
        return text

    def test_there_and_back(self):
        dice = random.Random(861)
        texts = {self.there_and_back(random_program(dice)) for _ in range(150)}
        self.assertGreater(len(texts), 100)
        for side in ("left", "down", "right", "up"):
            self.there_and_back(escape_program(side))

    def test_by_hand(self):
        rows = [GO, ("slide", "down", "right"), ("call", "a"), ("if", "left", [GO], []), ("while", "left", [])]
        self.assertEqual(
            t.program_text(Program({"b": rows, "a": []}, "b")),
            "first b\nto a\ndone\nto b\ngo left\nslide down right\ncall a\nif left\ngo left\nelse\nend\nwhile left\nend\ndone")

    def test_greatest_programs(self):
        names = [f"p{k:02}" for k in range(99)]
        self.there_and_back(Program({name: [("call", names[0])] for name in names}, "p98"))
        self.there_and_back(Program({"a": [GO] * 400}, "a"))
        self.there_and_back(Program({"a": nest(8), "b": nest(8, [], "if")}, "a"))
        self.there_and_back(Program({"a": []}, "a"))
        self.there_and_back(Program({"abcdefghij12": []}, "abcdefghij12"))
        head = "first a\nto a\n"
        self.wrong(head + "go up\n" * 401 + "done", 402)
        self.wrong(head + "if up\nelse\nend\n" * 200 + "go up\n" * 201 + "done", 2 + 800)
        self.wrong(head + "while up\n" * 9 + "end\n" * 9 + "done", 10)
        self.wrong("first abcdefghij123\nto abcdefghij123\ndone", 0)
        many = "\n".join(f"to p{k:03}\ndone" for k in range(100))
        self.wrong("first p000\n" + many, 1 + 2 * 99)
        # The last name that is called must still be able to come as one of 99.
        self.wrong("first z\n" + many, 1 + 2 * 98)
        calls = "\n".join(f"call p{k:03}" for k in range(1, 100))
        self.wrong("first p000\nto p000\n" + calls, 2 + 98)
        self.wrong("first z\nto a\n" + calls, 2 + 97)

    def test_cut_and_spoilt_texts(self):
        dice = random.Random(862)
        seen = {}
        for _ in range(60):
            lines = text_of(random_program(dice)).split("\n")
            texts = []
            for k in range(len(lines) + 1):
                texts.append(lines[:k])
                texts.append(lines[:k] + [dice.choice(["", "end", "else", "done", "go left", "call zz", "to c", "if up"])] + lines[k:])
                texts.append(lines[:k] + lines[k + 1:])
            for _ in range(8):
                k = dice.randrange(len(lines))
                spoilt = dice.choice([
                    lines[k] + " ", " " + lines[k], lines[k].replace(" ", "  "), lines[k].upper(), lines[k] + " up",
                    lines[k] + "\r", lines[k].replace("left", "down"), "to " + dice.choice("abmxz"), "call " + dice.choice("abmxz"),
                ])
                texts.append(lines[:k] + [spoilt] + lines[k + 1:])
            for one in texts:
                text = "\n".join(one)
                program = program_in(one)
                if program is None:
                    line = good_lines(text)
                    self.wrong(text, line)
                    seen[min(line, 9)] = True
                else:
                    self.assertEqual(t.read_program(text), program)
        self.assertGreater(len(seen), 8)

    def test_names_that_can_and_cannot_still_come(self):
        self.wrong("first a\nto b\ndone", 1)
        self.wrong("first b\nto a\ndone\nto c\ndone", 3)
        self.wrong("first b\nto a\ndone", 3)
        self.wrong("first a\nto a\ndone\nto b\ncall a\ncall b\ncall aa\ndone", 6)
        self.wrong("first a\nto a\ncall c\ndone\nto b\ncall c\ndone\nto d", 7)
        self.wrong("first a\nto a\ncall c\ndone\nto b\ncall c\ndone", 7)
        self.wrong("first a\nto a\ndone\nto a\ndone", 3)
        self.wrong("first a\nto a\ncall A\ndone", 2)
        self.wrong("first a", 1)
        self.wrong("first a\nto a", 2)
        self.wrong("first a\n\nto a\ndone", 1)
        self.wrong("first a\nto a\ndone\n", 3)
        self.wrong("", 0)
        self.wrong("\n", 0)
        self.wrong("first \nto a\ndone", 0)
        self.wrong("first a\nto a\nslide left right\ndone", 2)
        self.wrong("first a\nto a\ngo\ndone", 2)
        self.wrong("first a\nto a\nif up\nelse\nelse\nend\ndone", 4)
        self.wrong("first a\nto a\nif up\nend\ndone", 3)
        self.wrong("first a\nto a\nwhile up\nelse\nend\ndone", 3)
        self.wrong("first a\nto a\nwhile up\ndone", 3)
        self.wrong("first a\nto a\nend\ndone", 2)
        for line in ("fly left", "left", "go north", "go left up", "slide left", "slide north up", "slide left up up", "slide up down", "call",
                     "call a a", "if", "if north", "if up up", "while", "while north", "go  left", "", "done a", "else", "end done", "first a", "to b"):
            self.wrong("first a\nto a\n" + line + "\ndone", 2)
        for line in ("else", "done", "end end", "else else", "end up", "done done"):
            self.wrong("first a\nto a\nwhile up\n" + line + "\nend\ndone", 3)
        for line in ("end", "done", "else up", "end end"):
            self.wrong("first a\nto a\nif up\n" + line + "\nend\ndone", 3)
        for line in ("else", "done", "end end"):
            self.wrong("first a\nto a\nif up\nelse\n" + line + "\nend\ndone", 4)

    def test_procedures_called_like_words(self):
        words = ["call", "done", "else", "end", "first", "go", "if", "slide", "to", "while"]
        rows = [("call", word) for word in words]
        self.there_and_back(Program({word: rows + [("if", "up", rows, rows)] for word in words}, "done"))

    def test_names_within_other_rows(self):
        names = [f"p{k:02}" for k in range(99)]
        head = "first p00\n" + "".join(f"to {name}\ndone\n" for name in names[:98]) + "to p98\nif up\nwhile left\n"
        self.there_and_back(Program({name: [("if", "up", [("while", "left", [("call", "p00")])], [])] for name in names}, "p00"))
        self.wrong(head + "call p99\nend\nelse\nend\ndone", 1 + 2 * 98 + 3)

    def test_wrong_inputs(self):
        h.refuse(self, t.program_text, [PROGRAM], [escape_program("up")])
        for value in h.any_values():
            if type(value) is not str:
                self.wrong(value, 0)
            else:
                self.wrong(value, good_lines(value))


if __name__ == "__main__":
    unittest.main()
