import itertools
import random
import unittest

from gapstairs import runs as r
from gapstairs.chambers import is_outdoors
from gapstairs.drawings import Drawing, flipped_drawing
from gapstairs.errors import BadBody, BadDrawing, BadMost, BadProgram, BadSpot, NotFree
from gapstairs.fits import fits
from gapstairs.programs import Program, circular, escape_program, flipped_program, inlined, unlooped
from tests import helpers as h
from tests.test_programs import FLIP, GO, SIDES, random_program
from tests.test_touching import gone, hit, slid

FRONT = [
    ("drawing", BadDrawing, h.drawing), ("body", BadBody, h.body), ("spot", BadSpot, h.pair_of_numbers),
    ("program", BadProgram, h.program),
]
ONE = Drawing([(0, 0, 4, 4)])
PEN = Drawing(h.pen(0, 0, 7, 6))
NAMES = ["drawing", "body", "spot", "program"]


class Machine:
    """A run done row by row on a stack of its own, so far as it is let."""

    def __init__(self, drawing, body, spot, program):
        self.blocks, self.body, self.spot = drawing.blocks, body, spot
        self.table = dict(program.procedures)
        self.known = {}
        self.stack = [[self.table[program.first], 0, None]]
        self.trail, self.calls, self.over = [spot], {(program.first, spot)}, None

    def ask(self, question, *more):
        key = (question, self.spot) + more
        if key not in self.known:
            self.known[key] = question(self.blocks, self.body, self.spot, *more)
        return self.known[key]

    def is_touched(self, side):
        return bool(hit(self.blocks, self.body, 2 * self.spot[0], 2 * self.spot[1], side))

    def step(self):
        if not self.stack:
            self.over = ("ends", self.spot)
            return
        rows, at, again = self.stack[-1]
        if at == len(rows):
            if again is not None and self.is_touched(again):
                self.stack[-1][1] = 0
            else:
                self.stack.pop()
            return
        self.stack[-1][1] += 1
        row = rows[at]
        if row[0] == "go":
            there = self.ask(gone, row[1])
            if there is None:
                self.over = ("lost", row[1])
                return
            self.spot = there
            self.trail.append(there)
        elif row[0] == "slide":
            self.spot = self.ask(slid, row[1], row[2])
            self.trail.append(self.spot)
        elif row[0] == "if":
            self.stack.append([row[2] if self.is_touched(row[1]) else row[3], 0, None])
        elif row[0] == "while":
            if self.is_touched(row[1]):
                self.stack.append([row[2], 0, row[1]])
        else:
            self.calls.add((row[1], self.spot))
            self.stack.append([self.table[row[1]], 0, None])

    def go_on(self, steps):
        while self.over is None and steps:
            self.step()
            steps -= 1
        return self


def scenes(seed, rounds=25, programs=6):
    dice = random.Random(seed)
    found = []
    for blocks, size in h.small_scenes(seed, rounds, 5):
        drawing = Drawing(blocks[:7])
        spots = h.Flood(drawing.blocks, size).spots()
        for _ in range(programs):
            found.append((drawing, size, dice.choice(spots), random_program(dice)))
    return found


def walk(drawing, body, spot, rows, table, asked):
    """What rows come to from the spot if each call takes what the table has: ("ends", spot) or another outcome."""
    for row in rows:
        if row[0] == "go":
            there = gone(drawing.blocks, body, spot, row[1])
            if there is None:
                return ("lost", row[1])
            spot = there
        elif row[0] == "slide":
            spot = slid(drawing.blocks, body, spot, row[1], row[2])
        elif row[0] == "call":
            asked.append((row[1], spot))
            if asked[-1] not in table:
                return None
            told = table[asked[-1]][0]
            if told[0] != "ends":
                return told
            spot = told[1]
        else:
            seen = set()
            while True:
                side = bool(hit(drawing.blocks, body, 2 * spot[0], 2 * spot[1], row[1]))
                if row[0] == "while" and not side:
                    break
                if spot in seen:
                    return ("never",)
                seen.add(spot)
                told = walk(drawing, body, spot, row[2] if side else row[3], table, asked)
                if told is None or told[0] != "ends":
                    return told
                spot = told[1]
                if row[0] == "if":
                    break
    return ("ends", spot)


def is_ledger(drawing, body, spot, program, thing):
    """Whether a dict of the right kinds is a ledger."""
    table = dict(program.procedures)
    if (program.first, spot) not in thing:
        return False
    for (name, start), (outcome, rank) in thing.items():
        asked = []
        if walk(drawing, body, start, table[name], thing, asked) != outcome:
            return False
        if (rank is None) != (outcome == ("never",)):
            return False
        if rank is not None and any(thing[key][1] is None or thing[key][1] >= rank for key in asked):
            return False
    return True


class Runs(unittest.TestCase):
    def test_row_by_row(self):
        told = {}
        for front in scenes(541, 40):
            machine = Machine(*front).go_on(4000)
            outcome = h.ask(self, r.run, NAMES, list(front))
            self.assertTrue(h.same(outcome, machine.over or ("never",)), (front[0].blocks, front[1:3], front[3].procedures))
            told[outcome[0]] = told.get(outcome[0], 0) + 1
            for most in (0, 1, 2, 3, 7, 60):
                trail = h.ask(self, r.trail, NAMES + ["most"], list(front) + [most])
                self.assertEqual(trail, machine.trail[:most + 1])
            turned = (flipped_drawing(front[0]), front[1][::-1], front[2][::-1], flipped_program(front[3]))
            other = {"ends": lambda spot: spot[::-1], "lost": FLIP.get}
            wanted = outcome if outcome == ("never",) else (outcome[0], other[outcome[0]](outcome[1]))
            self.assertEqual(r.run(*turned), wanted)
        self.assertGreater(min(told.values()), 15)

    def test_inlined_and_unlooped_come_to_the_same(self):
        dice = random.Random(542)
        loops = 0
        for drawing, body, spot, program in scenes(543, 40):
            outcome = r.run(drawing, body, spot, program)
            without = unlooped(program)
            self.assertEqual(r.run(drawing, body, spot, without), outcome)
            loops += without != program
            plain = random_program(dice, False)
            self.assertEqual(r.run(drawing, body, spot, inlined(plain)), r.run(drawing, body, spot, plain))
            self.assertEqual(circular(plain), [])
        self.assertGreater(loops, 40)

    def test_heart_one_program_leads_all_bodies_out(self):
        dice = random.Random(544)
        told = {True: 0, False: 0}
        pens = [(h.pen(0, 0, 9, 9) + [(3, 3, 5, 5)], (1, 1)), (h.pen(0, 0, 9, 9)[:3] + [(8, 0, 9, 6)], (2, 1))]
        nested = [(h.pen(0, 0, 14, 14) + h.pen(3, 3, 11, 11) + [(6, 6, 7, 7)], (1, 2))]
        for blocks, size in h.small_scenes(545, 25, 6) + pens + nested:
            drawing = Drawing(blocks)
            flood = h.Flood(drawing.blocks, size)
            for spot in dice.sample(flood.spots(), min(12, len(flood.spots()))):
                out = is_outdoors(drawing, size, spot)
                for side in SIDES:
                    wanted = ("lost", side) if out else ("never",)
                    self.assertEqual(r.run(drawing, size, spot, escape_program(side)), wanted)
                    told[out] += 1
        self.assertGreater(min(told.values()), 100)

    def test_by_hand(self):
        around = Program({"a": [("go", "left"), ("while", "left", [("slide", "left", "up")]), ("go", "down")]}, "a")
        self.assertEqual(r.run(ONE, (1, 2), (9, 1), around), ("lost", "down"))
        self.assertEqual(r.trail(ONE, (1, 2), (9, 1), around, 10), [(9, 1), (4, 1), (4, 4)])
        self.assertEqual(r.run(ONE, (1, 2), (9, 4), around), ("lost", "left"))
        self.assertEqual(r.trail(ONE, (1, 2), (9, 4), around, 10), [(9, 4)])
        self.assertEqual(r.run(PEN, (1, 2), (3, 3), Program({"a": []}, "a")), ("ends", (3, 3)))
        for rows in ([("call", "a")], [("while", "left", [])], [("while", "left", [("go", "left")])], [("call", "b")]):
            never = Program({"a": rows, "b": [("call", "a")]}, "a")
            self.assertEqual(r.run(PEN, (1, 2), (1, 1), never), ("never",))
        slow = Program({"a": [("go", "left"), ("go", "right"), ("call", "a")]}, "a")
        self.assertEqual(r.run(PEN, (1, 2), (3, 3), slow), ("never",))
        self.assertEqual(r.trail(PEN, (1, 2), (3, 3), slow, 4), [(3, 3), (1, 3), (5, 3), (1, 3), (5, 3)])
        self.assertEqual(len(r.trail(PEN, (1, 2), (3, 3), slow, 10000)), 10001)
        still = Program({"a": [("go", "left"), ("slide", "left", "down"), ("call", "b")], "b": [("call", "b")]}, "a")
        self.assertEqual(r.trail(PEN, (1, 2), (1, 1), still, 10000), [(1, 1), (1, 1), (1, 1)])
        far = 999999999
        self.assertEqual(r.run(ONE, (far, far), (far, 0), Program({"a": [("go", "left")]}, "a")), ("ends", (4, 0)))

    def test_many_calls(self):
        chain = {f"p{k}": [("call", f"p{k + 1}")] * 2 for k in range(98)}
        for last, outcome in (([], ("ends", (3, 3))), ([GO], ("ends", (1, 3))), ([("call", "p0")], ("never",))):
            program = Program({**chain, "p98": last}, "p0")
            self.assertEqual(r.run(PEN, (1, 2), (3, 3), program), outcome)
            self.assertEqual(len(r.ledger(PEN, (1, 2), (3, 3), program)), 99 + 98 * (last == [GO]))
            moves = r.trail(PEN, (1, 2), (3, 3), program, 50)
            self.assertEqual(moves, [(3, 3)] + [(1, 3)] * 50 * (last == [GO]))
        lost = Program({**chain, "p98": [("go", "up")]}, "p0")
        self.assertEqual(r.run(ONE, (1, 2), (3, 5), lost), ("lost", "up"))
        loops = Program({"a": [("while", "left", [("go", "up"), ("go", "down"), ("call", "b")])], "b": [("slide", "left", "up")]}, "a")
        self.assertEqual(r.run(PEN, (1, 2), (1, 1), loops), ("never",))
        self.assertEqual(r.trail(PEN, (1, 2), (1, 1), loops, 7), [(1, y) for y in (1, 3, 1, 3, 3, 1, 3, 3)])

    def test_trails_go_on_in_loops_that_move(self):
        for rows in ([("while", "left", [("slide", "left", "up"), ("while", "up", [("slide", "left", "down")])])],
                     [("while", "left", [("call", "b")])]):
            program = Program({"a": rows, "b": [("slide", "left", "up"), ("slide", "left", "down")]}, "a")
            self.assertEqual(r.run(PEN, (1, 2), (1, 1), program), ("never",))
            self.assertEqual(r.trail(PEN, (1, 2), (1, 1), program, 6), [(1, 1), (1, 3)] * 3 + [(1, 1)])
        quiet = Program({"a": [GO, ("while", "left", [("if", "left", [("call", "b")], [GO])])], "b": []}, "a")
        self.assertEqual(r.trail(PEN, (1, 2), (3, 3), quiet, 10000), [(3, 3), (1, 3)])

    def test_refused(self):
        good = [PEN, (1, 2), (3, 3), escape_program("up")]
        h.refuse(self, r.run, FRONT, good)
        h.refuse(self, r.ledger, FRONT, good)
        h.refuse(self, r.is_ledger, FRONT + [("thing", None, None)], good + [None])
        most = ("most", BadMost, lambda thing: h.number(thing) and 0 <= thing <= 10000)
        h.refuse(self, r.trail, FRONT + [most], good + [3])
        barred = [PEN, (1, 2), (0, 3), escape_program("up")]
        h.fails(self, NotFree, r.run, *barred)
        h.fails(self, NotFree, r.ledger, *barred)
        h.fails(self, NotFree, r.trail, *barred, 10000)
        h.fails(self, NotFree, r.is_ledger, *barred, None)
        h.fails(self, BadMost, r.trail, *barred, 10001)
        h.fails(self, BadProgram, r.run, PEN, (1, 2), (0, 3), {"a": []})


class Ledgers(unittest.TestCase):
    def test_ledgers_of_runs(self):
        for front in scenes(546, 40, 4):
            machine = Machine(*front).go_on(4000)
            told = h.ask(self, r.ledger, NAMES, list(front))
            self.assertEqual(list(told), sorted(machine.calls))
            for (name, spot), (outcome, rank) in told.items():
                program = Program(dict(front[3].procedures), name)
                self.assertEqual(outcome, r.run(front[0], front[1], spot, program))
            self.assertTrue(is_ledger(*front, told))
            self.assertIs(r.is_ledger(*front, told), True)
            self.assertIs(r.is_ledger(*front, dict(reversed(list(told.items())))), True)

    def test_all_are_judged(self):
        dice = random.Random(547)
        told = {True: 0, False: 0}
        for front in scenes(548, 40, 4):
            drawing, body, spot, program = front
            first = r.ledger(*front)
            spots = [key[1] for key in first] + [spot]
            outcomes = [entry[0] for entry in first.values()] + [("never",), ("lost", "up"), ("ends", spot)]
            for _ in range(8):
                thing = dict(first)
                # More keys, with what their own runs come to, or something else.
                for _ in range(dice.randint(0, 2)):
                    key = (dice.choice([name for name, _ in program.procedures]), dice.choice(spots))
                    more = r.ledger(drawing, body, key[1], Program(dict(program.procedures), key[0]))
                    high = 5 + max([rank or 0 for _, rank in thing.values()])
                    thing.update({one: (told, rank if rank is None else rank + high) for one, (told, rank) in more.items()
                                  if one not in thing or dice.random() < 0.2})
                key = dice.choice(list(thing))
                what = dice.randint(0, 4)
                if what == 0:
                    thing[key] = (dice.choice(outcomes), thing[key][1])
                elif what == 1:
                    thing[key] = (thing[key][0], dice.choice([None, 0, 1, 3, 99]))
                elif what == 2:
                    del thing[key]
                elif what == 3:
                    thing[key] = (("never",), None)
                wanted = bool(thing) and is_ledger(*front, thing)
                self.assertIs(r.is_ledger(*front, thing), wanted, (thing, front[3].procedures))
                told[wanted] += 1
        self.assertGreater(min(told.values()), 150)

    def test_heart_what_any_ledger_has_is_the_outcome(self):
        """All ledgers of two keys with all outcomes and small ranks."""
        slots = Program({"a": [("if", "left", [("call", "b")], [GO])], "b": [("while", "up", [("call", "a")])]}, "a")
        for spot in ((1, 3), (1, 1), (3, 3)):
            keys = [(name, place) for name in "ab" for place in {spot, (1, 3)}]
            outcomes = [("never",), ("ends", spot), ("ends", (1, 3)), ("lost", "left")]
            entries = [(outcome, rank) for outcome in outcomes for rank in (None, 0, 1, 2)]
            for size in (1, 2):
                for some in itertools.combinations(keys, size):
                    for values in itertools.product(entries, repeat=size):
                        thing = dict(zip(some, values))
                        if r.is_ledger(PEN, (1, 2), spot, slots, thing):
                            for (name, place), (outcome, _) in thing.items():
                                same = Program(dict(slots.procedures), name)
                                self.assertEqual(outcome, r.run(PEN, (1, 2), place, same))

    def test_any_value(self):
        program = Program({"a": [GO]}, "a")
        front = (PEN, (1, 2), (3, 3), program)
        good = {("a", (3, 3)): (("ends", (1, 3)), 0)}
        self.assertEqual(r.ledger(*front), good)
        self.assertIs(r.is_ledger(*front, {("a", (3, 3)): (("ends", (1, 3)), 999)}), True)
        self.assertIs(r.is_ledger(*front, {**good, ("a", (1, 3)): (("ends", (1, 3)), 4)}), True)
        key = ("a", (3, 3))
        h.never(self, lambda thing: r.is_ledger(*front, thing), [
            {}, None, [good], {key: [("ends", (1, 3)), 0]}, {key: (["ends", (1, 3)], 0)}, {key: (("ends", [1, 3]), 0)},
            {key: (("ends", (True, 3)), 0)}, {key: (("ends", (1, 3)), None)}, {key: (("ends", (1, 3)), -1)},
            {key: (("ends", (1, 3)), False)}, {key: (("ends", (1, 3)), 0, 0)}, {key: (("ends", (1, 3)),)}, {key: (("never",), None)},
            {key: (("ends", (3, 3)), 0)}, {key: (("lost", "left"), 0)}, {key: ("ends", 0)}, {key: (("ends", (1, 3), 0), 0)},
            {("b", (3, 3)): good[key]}, {**good, ("b", (3, 3)): good[key]}, {**good, 0: 0}, {**good, ("a", (0, 0)): (("never",), None)},
            {**good, ("a", (0, 0)): (("ends", (0, 0)), 0)}, {**good, ("a", (True, 3)): (("ends", (1, 3)), 0)}, {key: None},
            {**good, ("a", 0): good[key]}, {**good, ("a",): good[key]}, {**good, (0, (3, 3)): good[key]}, {key: ((), 0)},
            {("a", (1, 3)): (("ends", (1, 3)), 0)}, {key: (("ends", (0, 0)), 0)},
        ])
        loop = Program({"a": [("call", "a")]}, "a")
        self.assertIs(r.is_ledger(PEN, (1, 2), (3, 3), loop, {key: (("never",), None)}), True)
        h.never(self, lambda thing: r.is_ledger(PEN, (1, 2), (3, 3), loop, thing), [
            {key: (("never",), None), ("a", (0, 3)): (("never",), None)}, {("a", (1, 1)): (("never",), None)},
            {key: (("never",), 0)}, {key: (("ends", (3, 3)), 0)}, {key: (("ends", (3, 3)), None)}, {key: (["never"], None)},
            {key: (("never", 0), None)}, {key: (("lost", "left"), 3)}, {key: (("never",), False)},
        ])
        for program in (program, loop, escape_program("up")):
            h.judge_any(self, r.is_ledger, PEN, (1, 2), (3, 3), program)
        # A key like those of the values of every kind.
        self.assertIs(fits(PEN, (1, 1), (8, 8)), True)
        h.judge_any(self, r.is_ledger, Drawing([]), (1, 1), (0, 0), loop)


if __name__ == "__main__":
    unittest.main()
