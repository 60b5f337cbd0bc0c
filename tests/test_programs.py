import random
import unittest

from gapstairs import programs as p
from gapstairs.errors import BadFirst, BadProcedures, BadProgram, BadSide, Circular, TooMany
from tests import helpers as h

SIDES = ("left", "down", "right", "up")
ACROSS = {"left": ("down", "up"), "right": ("down", "up"), "down": ("left", "right"), "up": ("left", "right")}
FLIP = {"left": "down", "down": "left", "right": "up", "up": "right"}
PROGRAM = ("program", BadProgram, h.program)
GO = ("go", "left")


def random_rows(dice, names, deep=1, most=4):
    rows = []
    for _ in range(dice.randint(0, most)):
        side = dice.choice(SIDES)
        word = dice.choice(["go", "slide", "slide", "if", "while", "call", "call"] if deep < 4 else ["go", "slide", "call"])
        if word == "go":
            rows.append(("go", side))
        elif word == "slide":
            rows.append(("slide", side, dice.choice(ACROSS[side])))
        elif word == "call":
            rows.append(("call", dice.choice(names)))
        elif word == "while":
            rows.append(("while", side, random_rows(dice, names, deep + 1, 2)))
        else:
            rows.append(("if", side, random_rows(dice, names, deep + 1, 2), random_rows(dice, names, deep + 1, 2)))
    return rows


def random_program(dice, circular=True):
    names = dice.sample(["main", "a", "b2", "x"], dice.randint(1, 3))
    table = {}
    for k, name in enumerate(names):
        table[name] = random_rows(dice, names if circular else names[k + 1:] or ["z"])
    if not circular:
        table["z"] = [GO]
    return p.Program(table, names[0])


def frozen(rows):
    return tuple(row[:2] + tuple(frozen(part) for part in row[2:]) if row[0] in ("if", "while") else row for row in rows)


def all_rows(rows):
    """All pairs of a row and how deep it is."""
    found = []
    for row in rows:
        found.append((row, 1))
        if row[0] in ("if", "while"):
            found += [(one, deep + 1) for part in row[2:] for one, deep in all_rows(part)]
    return found


def nest(levels, rows=(), word="while"):
    for _ in range(levels):
        rows = [("while", "up", rows)] if word == "while" else [("if", "up", [], rows)]
    return rows


def calls(rows):
    return {row[1] for row, _ in all_rows(rows) if row[0] == "call"}


def reached(table, start):
    found, waiting = set(), [start]
    while waiting:
        for name in calls(table[waiting.pop()]) - found:
            found.add(name)
            waiting.append(name)
    return found


class Programs(unittest.TestCase):
    def test_attributes(self):
        dice = random.Random(531)
        for _ in range(60):
            names = ["b", "a", "c9"]
            table = {name: random_rows(dice, names) for name in names}
            program = h.ask(self, p.Program, ["procedures", "first"], [table, "b"])
            self.assertTrue(h.same(program.procedures, tuple((name, frozen(table[name])) for name in sorted(names))))
            self.assertEqual(program.first, "b")
            self.assertEqual(len(program), sum(len(all_rows(rows)) for rows in table.values()))
            self.assertTrue(program == p.Program({name: frozen(table[name]) for name in names}, "b"))
            self.assertFalse(program == p.Program(table, "a"))
            self.assertFalse(program == p.Program({**table, "d": []}, "b"))
            for value in h.any_values() + names:
                self.assertIs(value in program, type(value) is str and value in names)
                self.assertFalse(program == value)

    def test_what_is_passed_may_be_changed_later(self):
        inner = [GO]
        table = {"a": [("if", "up", inner, [])], "b": inner}
        program = p.Program(table, "a")
        inner.append(("call", "nobody"))
        table["c"] = []
        self.assertEqual(program.procedures, (("a", (("if", "up", (GO,), ()),)), ("b", (GO,))))
        self.assertEqual(len(program), 3)

    def test_limits(self):
        for table in (
                {"a": []}, {"a": ()}, {"a": [GO] * 400}, {"a": [GO] * 200, "b": [GO] * 200}, {"a": nest(8)}, {"a": nest(7, [GO])},
                {"a": nest(8, word="if")}, {"abcdefghijkl": []}, {"z9": []}, {f"p{k}": [] for k in range(99)}, {"a": [("call", "a")]},
                {"a": nest(7, [("if", "up", (), ())])}, {"a": [("while", "up", [GO] * 399)]}):
            self.assertIs(type(p.Program(table, list(table)[0])), p.Program)
        for table in (
                {}, {"a": [GO] * 401}, {"a": [GO] * 200, "b": [GO] * 201}, {"a": nest(9)}, {"a": nest(8, [GO])}, {"abcdefghijklm": []},
                {"a": [("while", "up", [GO] * 400)]}, {f"p{k}": [] for k in range(100)}, {"": []}, {"9a": []}, {"a_": []}, {"A": []},
                {"a b": []}, {"\u00e9": []}, {"a\u00e9": []}, {"a": nest(9, word="if")}, {"a": nest(8, [("call", "a")])}, {"a\n": []},
                {"a": [], "B": []}, {"a": [], 1: []}, {"a": [], None: []}):
            h.fails(self, BadProcedures, p.Program, table, "a")

    def test_rows(self):
        good = [GO, ("slide", "left", "up"), ("if", "up", [], ()), ("if", "up", [GO], [GO]), ("while", "down", (GO,)), ("call", "a")]
        for row in good:
            self.assertEqual(p.Program({"a": [row]}, "a").procedures, (("a", frozen([row])),))
        for row in [
                ["go", "left"], ("go",), ("go", "west"), ("go", "left", "left"), ("go", None), ("go", ("left",)), ("GO", "left"),
                ("slide", "left", "right"), ("slide", "left", "left"), ("slide", "left"), ("slide", "left", "up", "up"), (), None,
                ("slide", "top", "left"), ("if", "up", []), ("if", "up", [], [], []), ("if", [], []), ("if", "up", None, []),
                ("if", "up", [], None), ("if", "up", {}, []), ("while", "up"), ("while", "up", [], []), ("while", "up", [("go",)]),
                ("while", None, []), ("call",), ("call", "b"), ("call", "a", "a"), ("call", None), ("call", ["a"]), "go", ("call", True),
                ("if", "up", [["go", "left"]], []), (("go", "left"),), ("if", "up", [], [("call", "b")]), (True, "left"), ("jump", 0),
                ("test", "left", 0), ("slide", "left", None), ("slide", "left", ["up"]), ("while", "up", GO)]:
            h.fails(self, BadProcedures, p.Program, {"a": [row]}, "a")
            h.fails(self, BadProcedures, p.Program, {"a": [GO, ("while", "up", [row])]}, "a")
            h.fails(self, BadProcedures, p.Program, {"a": [], "c": [row]}, "a")

    def test_refused(self):
        for value in h.any_values():
            if h.same(value, {"a": []}) or h.same(value, {"a": [GO]}):
                continue
            h.fails(self, BadProcedures, p.Program, value, "a")
            h.fails(self, BadProcedures, p.Program, value, None)
        for value in h.any_values():
            if value != "a":
                h.fails(self, BadFirst, p.Program, {"a": []}, value)
        h.refuse(self, p.flipped_program, [PROGRAM], [p.Program({"a": []}, "a")])
        h.refuse(self, p.circular, [PROGRAM], [p.Program({"a": []}, "a")])
        h.refuse(self, p.inlined, [PROGRAM], [p.Program({"a": []}, "a")])
        h.refuse(self, p.unlooped, [PROGRAM], [p.Program({"a": []}, "a")])
        h.refuse(self, p.escape_program, [("side", BadSide, h.side)], ["up"])


def flip(rows):
    found = []
    for row in rows:
        if row[0] in ("if", "while"):
            found.append((row[0], FLIP[row[1]]) + tuple(flip(part) for part in row[2:]))
        else:
            found.append(row if row[0] == "call" else row[:1] + tuple(FLIP[side] for side in row[1:]))
    return tuple(found)


class Changed(unittest.TestCase):
    def test_flipped_and_circular(self):
        dice = random.Random(532)
        some = 0
        for _ in range(80):
            program = random_program(dice)
            turned = p.flipped_program(program)
            self.assertEqual(turned.procedures, tuple((name, flip(rows)) for name, rows in program.procedures))
            self.assertEqual(turned.first, program.first)
            self.assertEqual(p.flipped_program(turned), program)
            table = dict(program.procedures)
            told = h.ask(self, p.circular, ["program"], [program])
            self.assertEqual(told, sorted(name for name in table if name in reached(table, name)))
            some += len(told)
        self.assertGreater(some, 30)
        ring = p.Program({"a": [("while", "up", [("call", "b")])], "b": [("call", "c")], "c": [("call", "b")], "d": []}, "a")
        self.assertEqual(p.circular(ring), ["b", "c"])
        # Names stay, also those that are sides.
        self.assertEqual(
            p.flipped_program(p.Program({"left": [("call", "left")]}, "left")), p.Program({"left": [("call", "left")]}, "left"))

    def test_inlined(self):
        dice = random.Random(533)
        for _ in range(80):
            program = random_program(dice, False)
            table = dict(program.procedures)
            told = p.inlined(program)
            self.assertEqual(told.first, program.first)
            self.assertEqual(told.procedures, ((program.first, self.put_in(table, table[program.first])),))

    def put_in(self, table, rows):
        found = []
        for row in rows:
            if row[0] == "call":
                found += self.put_in(table, table[row[1]])
            elif row[0] in ("if", "while"):
                found.append(row[:2] + tuple(self.put_in(table, part) for part in row[2:]))
            else:
                found.append(row)
        return tuple(found)

    def test_inlined_edges(self):
        chain = {f"p{k}": [("call", f"p{k + 1}")] * 2 for k in range(98)}
        self.assertEqual(p.inlined(p.Program({**chain, "p98": []}, "p0")), p.Program({"p0": []}, "p0"))
        self.assertEqual(h.fails(self, TooMany, p.inlined, p.Program({**chain, "p98": [GO]}, "p0")).most, 400)
        just = {"a": [("call", "b")] * 4, "b": [GO] * 100}
        self.assertEqual(len(p.inlined(p.Program(just, "a"))), 400)
        over = p.Program({**just, "a": just["a"] + [GO]}, "a")
        self.assertEqual(h.fails(self, TooMany, p.inlined, over).most, 400)
        deep = {"a": nest(4, [("call", "b")]), "b": nest(4)}
        self.assertEqual(p.inlined(p.Program(deep, "a")), p.Program({"a": nest(8)}, "a"))
        deeper = {"a": nest(4, [("call", "b")]), "b": nest(4, [("call", "c")]), "c": [GO]}
        self.assertEqual(h.fails(self, TooMany, p.inlined, p.Program(deeper, "a")).most, 8)
        both = {"a": nest(4, [("call", "b")]) + [("call", "c")] * 2, "b": nest(4, [GO]), "c": [GO] * 200}
        self.assertEqual(h.fails(self, TooMany, p.inlined, p.Program(both, "a")).most, 400)
        empty = {"a": nest(7, [("call", "b")]), "b": [("call", "c")], "c": []}
        self.assertEqual(p.inlined(p.Program(empty, "a")), p.Program({"a": nest(7)}, "a"))
        circle = {"a": [("call", "b")], "b": [("call", "c")], "c": [("call", "b")], "d": [("call", "d")], "e": [GO]}
        for first, bad in (("a", True), ("b", True), ("d", True), ("e", False)):
            if bad:
                h.fails(self, Circular, p.inlined, p.Program(circle, first))
            else:
                self.assertEqual(p.inlined(p.Program(circle, first)), p.Program({"e": [GO]}, "e"))
        h.fails(self, Circular, p.inlined, p.Program({"a": [GO] * 399 + [("call", "a")]}, "a"))

    def test_unlooped_edges(self):
        loops = p.Program({"a": [("while", "up", [])] * 98}, "a")
        self.assertEqual(len(p.unlooped(loops)), 98 * 3)
        over = p.Program({"a": [("while", "up", [])] * 99}, "a")
        self.assertEqual(h.fails(self, TooMany, p.unlooped, over).most, 99)
        full = p.Program({"a": [GO] * 310 + [("while", "up", [])] * 30}, "a")
        self.assertEqual(len(p.unlooped(full)), 400)
        more = p.Program({"a": [GO] * 311 + [("while", "up", [])] * 30}, "a")
        self.assertEqual(h.fails(self, TooMany, p.unlooped, more).most, 400)
        both = p.Program({"a": [GO] * 300 + [("while", "up", [])] * 99}, "a")
        self.assertEqual(h.fails(self, TooMany, p.unlooped, both).most, 99)
        taken = p.Program({f"w{k}": [("while", "up", [])] for k in range(20)}, "w7")
        self.assertEqual(p.unlooped(taken).first, "w7")
        self.assertEqual(len(p.unlooped(taken).procedures), 40)
        dice = random.Random(534)
        for _ in range(60):
            told = p.unlooped(random_program(dice))
            self.assertEqual([row for _, rows in told.procedures for row, _ in all_rows(rows) if row[0] == "while"], [])
        for nested in (nest(8), nest(7, [GO])):
            program = p.Program({"a": nested}, "a")
            self.assertEqual(len(p.unlooped(program)), len(program) + 2 * (len(program) - (nested == nest(7, [GO]))))

    def test_escape_program(self):
        turns = {"left": "down", "down": "right", "right": "up", "up": "left"}
        back = {turn: side for side, turn in turns.items()}
        for side in SIDES:
            rows = {
                one: [("slide", back[one], one), ("if", back[one], [("call", turns[one]), ("call", one)], [])] for one in SIDES}
            rows["out"] = [("go", side), ("call", turns[side]), ("call", "out")]
            self.assertEqual(p.escape_program(side), p.Program(rows, "out"))


if __name__ == "__main__":
    unittest.main()
