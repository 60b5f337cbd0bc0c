import itertools
import random
import unittest

from gapstairs import machines as m
from gapstairs.drawings import Drawing
from gapstairs.errors import BadCase, BadDrawing, BadMachine, BadMove, BadRow, BadSenses
from tests import feeling as f
from tests import helpers as h

DRAWING = ("drawing", BadDrawing, h.drawing)
CASE = ("case", BadCase, f.case_in(f.BLOCK))
SENSES = ("senses", BadSenses, f.senses)
FIRST = f.BY_HAND[0]


def all_stands(drawing, case):
    body, stand = case
    found = [stand]
    for here in found:
        for one in f.MOVES:
            there = f.behind(drawing, body, here, one)
            if there not in found:
                found.append(there)
    return found


def felt_by(pairs, row):
    at = 0
    found = [pairs[0][0]]
    for one in row:
        at = pairs[at][1][f.MOVES.index(one)]
        found.append(pairs[at][0])
    return found


def word_of(pairs, at, deep):
    """What is felt from a pair by all rows of so many moves."""
    if deep == 0:
        return pairs[at][0]
    return (pairs[at][0],) + tuple(word_of(pairs, goal, deep - 1) for goal in pairs[at][1])


def random_machine(dice, many, senses=((), ("left",), ("up", "lost"))):
    return tuple(
        (dice.choice(senses), tuple(dice.randrange(many) for _ in range(12))) for _ in range(many))


class Machines(unittest.TestCase):
    def test_moves_and_senses(self):
        self.assertTrue(h.same(m.MOVES, tuple(f.MOVES)))
        self.assertEqual(m.MOVES[4], ("slide", "left", "down"))
        self.assertEqual(m.MOVES[6], ("slide", "down", "left"))
        self.assertEqual(m.SENSES, f.SENSES)

    def test_rows_one_by_one(self):
        dice = random.Random(901)
        rows = f.all_rows(2)
        for drawing, cases in f.scenes(902, 12):
            for case in cases:
                for senses in dice.sample(f.ALL_SENSES, 2) + [f.SENSES]:
                    self.assertEqual(h.ask(self, m.feel, ["drawing", "case", "senses"], [drawing, case, senses]),
                                     f.feel(drawing, *case, senses))
                for row in dice.sample(rows, 6) + [[dice.choice(f.MOVES) for _ in range(9)]]:
                    senses = dice.choice(f.ALL_SENSES)
                    told = h.ask(self, m.feels, ["drawing", "case", "row", "senses"], [drawing, case, row, senses])
                    self.assertEqual(told, f.felt_along(drawing, case, row, senses))
                    self.assertEqual(m.feels(drawing, case, tuple(row)), f.felt_along(drawing, case, row))
                for one in f.MOVES:
                    told = h.ask(self, m.behind, ["drawing", "case", "move"], [drawing, case, one])
                    self.assertTrue(h.same(told, (case[0], f.behind(drawing, *case, one))))
                self.assertEqual(m.feel(drawing, case), f.feel(drawing, *case))

    def test_stands_and_machines(self):
        dice = random.Random(903)
        for drawing, cases in f.scenes(904, 12, 3):
            for case in cases:
                stands = h.ask(self, m.stands, ["drawing", "case"], [drawing, case])
                self.assertTrue(h.same(stands, all_stands(drawing, case)))
                senses = dice.choice(f.ALL_SENSES)
                pairs = h.ask(self, m.machine, ["drawing", "case", "senses"], [drawing, case, senses])
                self.assertEqual(pairs, tuple(
                    (f.feel(drawing, case[0], stand, senses),
                     tuple(stands.index(f.behind(drawing, case[0], stand, one)) for one in f.MOVES))
                    for stand in stands))
                self.assertIs(m.is_machine(pairs), True)
                self.assertEqual(m.machine(drawing, case), m.machine(drawing, case, f.SENSES))
                least = h.ask(self, m.least_machine, ["pairs"], [pairs])
                for row in dice.sample(f.all_rows(2), 20) + [[dice.choice(f.MOVES) for _ in range(7)]]:
                    self.assertEqual(felt_by(pairs, row), m.feels(drawing, case, row, senses))
                    self.assertEqual(felt_by(least, row), felt_by(pairs, row))

    def test_least_machines(self):
        dice = random.Random(905)
        sizes = {}
        for _ in range(150):
            many = dice.randint(1, 4)
            pairs = random_machine(dice, many)
            if dice.random() < 0.5:
                # The same machine with each pair twice.
                pairs = tuple(
                    (felt, tuple(goal + many * dice.randrange(2) for goal in goals)) for felt, goals in pairs * 2)
            least = m.least_machine(pairs)
            self.assertIs(m.is_machine(least), True)
            self.assertEqual(m.least_machine(least), least)
            met = [0]
            for at in met:
                met += [goal for goal in least[at][1] if goal not in met and not met.append(goal)][:0]
            self.assertEqual(met, list(range(len(least))))
            # No two pairs of it feel the same by all rows, and those that are met first stand first.
            words = [word_of(least, at, len(least)) if len(least) < 3 else at for at in range(len(least))]
            self.assertEqual(len(set(words)), len(least))
            reached = [0]
            for at in reached:
                for goal in pairs[at][1]:
                    if goal not in reached:
                        reached.append(goal)
            deep = 3
            told = {word_of(pairs, at, deep) for at in reached}
            self.assertLessEqual(len(told), len(least))
            if len(reached) <= 4:
                self.assertEqual(len(told), len(least))
            for _ in range(20):
                row = [dice.choice(f.MOVES) for _ in range(dice.randint(0, 6))]
                self.assertEqual(felt_by(least, row), felt_by(pairs, row))
            sizes[len(least)] = True
        self.assertTrue({1, 2, 3, 4} <= set(sizes))
        # A chain that is told apart only at its end needs all its pairs.
        chain = tuple((("lost",) if k == 30 else (), (min(k + 1, 30),) * 12) for k in range(31))
        self.assertEqual(m.least_machine(chain), chain)
        loop = tuple(((), ((k + 1) % 7,) * 12) for k in range(7))
        self.assertEqual(m.least_machine(loop), (((), (0,) * 12),))

    def test_by_hand(self):
        stands = [(-3, 1), (), (-1, 1), (-1, -2), (-1, 4), (4, -2), (4, 4)]
        self.assertEqual(m.stands(f.BLOCK, FIRST), stands)
        row = [("go", "right"), ("slide", "right", "up"), ("go", "up")]
        self.assertEqual(m.feels(f.BLOCK, FIRST, row), [(), ("right",), (), ("lost",)])
        self.assertEqual(m.feels(f.BLOCK, FIRST, row, ()), [()] * 4)
        self.assertEqual(m.feels(f.BLOCK, FIRST, row, ("left", "lost")), [(), (), (), ("lost",)])
        self.assertEqual(m.feels(f.BLOCK, FIRST, []), [()])
        self.assertEqual(len(m.least_machine(m.machine(f.BLOCK, FIRST))), 4)
        self.assertEqual(m.least_machine(m.machine(f.BLOCK, FIRST, ())), (((), (0,) * 12),))
        lost = ((2, 2), ())
        self.assertEqual(m.stands(f.BLOCK, lost), [()])
        self.assertEqual(m.machine(f.BLOCK, lost), ((("lost",), (0,) * 12),))
        self.assertEqual(m.behind(f.BLOCK, lost, ("slide", "up", "left")), lost)
        self.assertEqual(m.feel(f.BLOCK, lost, ("left", "up")), ())
        nothing = ((1, 1), (5, 5))
        self.assertEqual(m.stands(Drawing([]), nothing), [(5, 5), ()])
        self.assertEqual(m.machine(Drawing([]), nothing), (((), (1,) * 4 + (0,) * 8), (("lost",), (1,) * 12)))

    def test_large_numbers(self):
        for drawing, cases in f.scenes(906, 5, 2):
            for body, stand in cases:
                if stand != ():
                    far, spot = h.huge(drawing, stand)
                    big = (h.TIMES * body[0], h.TIMES * body[1])
                    self.assertEqual(m.machine(far, (big, spot)), m.machine(drawing, (body, stand)))

    def test_what_is_judged(self):
        h.judge_any(self, m.is_case, f.BLOCK)
        for value in h.any_values() + [FIRST, ((1, 2), ()), ((1, 2), [-3, 1]), [(1, 2), (-3, 1)], ((1, 2), (1, 1)),
                                       ((1, True), (-3, 1)), ((1, 2), (-3, True)), ((0, 2), ()), ((1, 2), None)]:
            self.assertIs(m.is_case(f.BLOCK, value), f.case_in(f.BLOCK)(value), value)
        h.judge_any(self, m.is_machine)
        good = (("left", "lost"), (1,) * 12), ((), (0,) * 11 + (1,))
        self.assertIs(m.is_machine(good), True)
        h.never(self, m.is_machine, [
            (), list(good), good + ((),), (list(good[0]), good[1]), ((["left"], (0,) * 12),), (((), [0] * 12),),
            (((), (0,) * 11),), (((), (0,) * 13),), (((), (False,) + (0,) * 11),), (((), (1,) * 12),),
            (((), (-1,) * 12),), ((("lost", "left"), (0,) * 12),), ((("left", "left"), (0,) * 12),), ((None, (0,) * 12),),
            ((("in",), (0,) * 12),), (((), (0,) * 12, 1),),
        ])

    def test_wrong_inputs(self):
        h.refuse(self, m.is_case, [DRAWING, ("thing", None, None)], [f.BLOCK, 1])
        h.refuse(self, m.behind, [DRAWING, CASE, ("move", BadMove, f.move)], [f.BLOCK, FIRST, f.MOVES[0]])
        h.refuse(self, m.feel, [DRAWING, CASE, SENSES], [f.BLOCK, FIRST, ("up",)])
        h.refuse(self, m.feels, [DRAWING, CASE, ("row", BadRow, f.row), SENSES], [f.BLOCK, FIRST, [f.MOVES[3]], ()])
        h.refuse(self, m.stands, [DRAWING, CASE], [f.BLOCK, FIRST])
        h.refuse(self, m.machine, [DRAWING, CASE, SENSES], [f.BLOCK, FIRST, ("up",)])
        h.refuse(self, m.least_machine, [("pairs", BadMachine, m.is_machine)], [(((), (0,) * 12),)])
        for senses in (["up"], ("up", "left"), ("up", "up"), ("lost", "up"), "up", ("front",), None):
            h.fails(self, BadSenses, m.feel, f.BLOCK, FIRST, senses)
        for row in ([("go",)], [("go", "up", "up")], [["go", "up"]], [("slide", "up", "down")], ("go", "up"), [("call", "a")]):
            h.fails(self, BadRow, m.feels, f.BLOCK, FIRST, row)
        for case in (((1, 2), (-1, 1, 1)), ((1, 2), (1, 1)), ((1, 2), "lost"), [(1, 2), ()]):
            h.fails(self, BadCase, m.stands, f.BLOCK, case)

    def test_all_senses(self):
        for senses in f.ALL_SENSES:
            self.assertEqual(m.feel(f.BLOCK, ((1, 2), (-1, 1)), senses), ("right",) if "right" in senses else ())
        self.assertEqual(len(list(itertools.chain(f.ALL_SENSES))), 32)


if __name__ == "__main__":
    unittest.main()
