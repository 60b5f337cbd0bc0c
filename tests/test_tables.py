import random
import unittest

from gapstairs import tables as t
from gapstairs.cells import fine_cells, named
from gapstairs.drawings import Drawing
from gapstairs.errors import BadDrawing, BadGoal, BadProgram, BadSecond, BadSpot
from gapstairs.fits import fits
from gapstairs.passages import stairs_between, stairs_out
from gapstairs.programs import Program, escape_program, unlooped
from gapstairs.runs import run
from gapstairs.stairs import inside
from tests import helpers as h
from tests.test_programs import GO, SIDES, random_program

FRONT = [
    ("drawing", BadDrawing, h.drawing), ("spot", BadSpot, h.pair_of_numbers), ("program", BadProgram, h.program),
]
NAMES = ["drawing", "spot", "program"]
PEN = Drawing(h.pen(0, 0, 7, 6))
NOTHING = Program({"a": []}, "a")
LEFT = Program({"a": [GO]}, "a")


def scenes(seed, rounds=12, programs=4):
    dice = random.Random(seed)
    found = []
    for drawing, one, other in h.two_spots(seed, rounds, 4, 3):
        if len(drawing) <= 5:
            found += [(drawing, one, random_program(dice)) for _ in range(programs)]
            found.append((drawing, one, escape_program(dice.choice(SIDES))))
            found.append((drawing, other, LEFT))
    return found


def most_of(drawing, spots):
    return max([0] + [size for body in h.sizes_for(drawing, spots) for size in body]) + 1


class Tables(unittest.TestCase):
    def test_a_run_in_each_cell(self):
        dice = random.Random(551)
        for drawing, spot, program in scenes(552):
            table = h.ask(self, t.run_table, NAMES, [drawing, spot, program])
            cells = fine_cells(drawing, [spot])
            wanted = [cell for cell in cells if fits(drawing, (cell[0][0], cell[1][0]), spot)]
            self.assertEqual(list(table), wanted)
            for cell in wanted:
                for _ in range(2):
                    body = tuple(dice.randint(least, most or least + 20) for least, most in cell)
                    outcome = run(drawing, body, spot, program)
                    if outcome[0] == "ends":
                        outcome = ("ends", named(drawing, [spot], body, outcome[1]))
                    self.assertTrue(h.same(table[cell], outcome))

    def test_by_hand(self):
        self.assertEqual(t.run_table(Drawing([]), (2, 2), NOTHING), {
            ((1, None), (1, None)): ("ends", (("spot", 0), ("spot", 0)))})
        self.assertEqual(t.run_table(Drawing([]), (2, 2), LEFT), {((1, None), (1, None)): ("lost", "left")})
        self.assertEqual(t.run_table(PEN, (0, 0), LEFT), {})
        table = t.run_table(PEN, (2, 1), LEFT)
        self.assertEqual(list(table)[0], ((1, 3), (1, 3)))
        self.assertEqual(set(table.values()), {("ends", (("right", 0), ("spot", 0)))})
        self.assertEqual(t.run_table(PEN, (2, 1), Program({"a": [("call", "a")]}, "a"))[((4, 4), (4, 4))], ("never",))

    def test_programs_side_by_side(self):
        dice = random.Random(553)
        told = {True: 0, False: 0}
        for drawing, spot, program in scenes(554, 10, 5):
            most = most_of(drawing, [spot])
            for second in (random_program(dice), unlooped(program), NOTHING, LEFT):
                first = None
                for a in range(1, most + 1):
                    for b in range(1, most + 1):
                        if first is None and fits(drawing, (a, b), spot):
                            if run(drawing, (a, b), spot, program) != run(drawing, (a, b), spot, second):
                                first = (a, b)
                names = NAMES + ["second"]
                self.assertTrue(h.same(h.ask(self, t.parting_body, names, [drawing, spot, program, second]), first))
                self.assertIs(t.alike_runs(drawing, spot, program, second), first is None)
                told[first is None] += 1
        self.assertGreater(min(told.values()), 40)

    def test_sides_by_hand(self):
        slot = Drawing([(0, -9, 1, 0), (0, 3, 1, 9)])
        right = Program({"a": [("go", "right")]}, "a")
        stop = Program({"a": [("go", "right"), ("call", "a")]}, "a")
        self.assertEqual(t.parting_body(slot, (-5, 0), right, stop), (1, 4))
        self.assertIs(t.alike_runs(slot, (-5, 0), right, stop), False)
        self.assertIs(t.alike_runs(slot, (9, 0), right, stop), True)
        self.assertIsNone(t.parting_body(slot, (0, -3), right, stop))
        self.assertIs(t.alike_runs(slot, (0, -3), right, LEFT), True)

    def test_refused(self):
        good = [PEN, (2, 1), LEFT]
        h.refuse(self, t.run_table, FRONT, good)
        second = ("second", BadSecond, h.program)
        h.refuse(self, t.alike_runs, FRONT + [second], good + [NOTHING])
        h.refuse(self, t.parting_body, FRONT + [second], good + [NOTHING])
        goal = ("goal", BadGoal, lambda thing: h.side(thing) or h.pair_of_numbers(thing))
        h.refuse(self, t.sure_stairs, FRONT + [goal], good + ["up"])
        h.refuse(self, t.sure_stairs, FRONT + [goal], good + [(2, 2)])
        for thing in ("west", (0, True), [0, 0], ("up",), None, 0):
            h.fails(self, BadGoal, t.sure_stairs, PEN, (2, 1), LEFT, thing)


class Sure(unittest.TestCase):
    def test_all_lesser_bodies(self):
        dice = random.Random(555)
        some = 0
        for drawing, spot, program in scenes(556, 10):
            blocks = drawing.blocks or ((0, 0, 1, 1),)
            body = (dice.randint(1, 3), dice.randint(1, 3))
            ends = []
            if fits(drawing, body, spot):
                outcome = run(drawing, body, spot, program)
                ends = [outcome[1]] if outcome[0] != "never" else []
            place = (dice.choice(blocks)[2], dice.choice(blocks)[3])
            for goal in ends + [dice.choice(SIDES), spot, place]:
                told = h.ask(self, t.sure_stairs, NAMES + ["goal"], [drawing, spot, program, goal])
                wanted = ("lost", goal) if type(goal) is str else ("ends", goal)
                most = most_of(drawing, [spot] if type(goal) is str else [spot, goal])
                good = {
                    (a, b) for a in range(1, most + 1) for b in range(1, most + 1)
                    if fits(drawing, (a, b), spot) and run(drawing, (a, b), spot, program) == wanted}
                sure = {(a, b) for a, b in good if all((c, d) in good for c in range(1, a + 1) for d in range(1, b + 1))}
                self.assertTrue(h.stairs(told))
                self.assertEqual(h.held_set(told, most), sure)
                some += told != ()
                if type(goal) is str:
                    self.assertTrue(inside(told, stairs_out(drawing, spot)))
                else:
                    self.assertTrue(inside(told, stairs_between(drawing, spot, goal)))
        self.assertGreater(some, 40)

    def test_the_way_out(self):
        for drawing, spot, _ in scenes(557, 14, 1):
            for side in SIDES:
                self.assertEqual(t.sure_stairs(drawing, spot, escape_program(side), side), stairs_out(drawing, spot))
                large = h.huge(drawing, spot)
                wanted = h.huge_stairs(stairs_out(drawing, spot))
                self.assertEqual(t.sure_stairs(*large, escape_program(side), side), wanted)

    def test_large_numbers(self):
        for drawing, spot, program in scenes(558, 14, 2):
            few = set(t.run_table(drawing, spot, program).values())
            self.assertTrue(few <= set(t.run_table(*h.huge(drawing, spot), program).values()))

    def test_by_hand(self):
        self.assertEqual(t.sure_stairs(Drawing([]), (0, 0), NOTHING, (0, 0)), ((None, None),))
        self.assertEqual(t.sure_stairs(Drawing([]), (0, 0), NOTHING, (0, 1)), ())
        self.assertEqual(t.sure_stairs(PEN, (2, 1), LEFT, (1, 1)), ((4, 4),))
        self.assertEqual(t.sure_stairs(PEN, (2, 1), Program({"a": [("go", "right")]}, "a"), (3, 1)), ())
        self.assertEqual(t.sure_stairs(PEN, (2, 1), Program({"a": [("go", "right")]}, "a"), (5, 1)), ((1, 4),))
        self.assertEqual(t.sure_stairs(PEN, (2, 1), LEFT, "left"), ())
        # Only the body that is just as wide comes to stand there, not the lesser ones.
        self.assertEqual(t.sure_stairs(PEN, (1, 1), Program({"a": [("go", "right")]}, "a"), (4, 1)), ())


if __name__ == "__main__":
    unittest.main()
