import random
import unittest

from gapstairs import partings as p
from gapstairs.drawings import Drawing
from gapstairs.errors import BadCase, BadCases, BadDrawing, BadNumber, BadSenses
from gapstairs.machines import MOVES, behind, least_machine, machine
from gapstairs.runs import run
from tests import feeling as f
from tests import helpers as h
from tests.test_machines import DRAWING, FIRST, SENSES
from tests.test_programs import random_program

TWO = [DRAWING, ("one", BadCase, f.case_in(f.BLOCK)), ("other", BadCase, f.case_in(f.BLOCK))]
NAMES = ["drawing", "one", "other", "senses"]
CASES = ("cases", BadCases, f.cases_in(f.BLOCK))
ROWS = f.all_rows(2)


def is_likeness(drawing, one, other, pairs, senses):
    """The words of the point, for a tuple of pairs of stands."""
    if len(set(pairs)) != len(pairs) or (one[1], other[1]) not in pairs:
        return False
    return all(
        f.feel(drawing, one[0], here, senses) == f.feel(drawing, other[0], there, senses)
        and all((f.behind(drawing, one[0], here, step), f.behind(drawing, other[0], there, step)) in pairs for step in f.MOVES)
        for here, there in pairs)


class Partings(unittest.TestCase):
    def test_rows_one_by_one(self):
        dice = random.Random(911)
        lengths = {}
        for drawing, cases in f.scenes(912, 22, 4):
            for _ in range(4):
                one, other = dice.choice(cases), dice.choice(cases)
                senses = dice.choice(f.ALL_SENSES + [f.SENSES] * 10)
                values = [drawing, one, other, senses]
                row = h.ask(self, p.parting, NAMES, values)
                alike = h.ask(self, p.are_alike, NAMES, values)
                pairs = h.ask(self, p.likeness, NAMES, values)
                self.assertIs(alike, row is None)
                self.assertEqual(alike, pairs is not None)
                machines = [machine(drawing, case, senses) for case in (one, other)]
                self.assertEqual(alike, least_machine(machines[0]) == least_machine(machines[1]))
                unlike = [row for row in ROWS if f.felt_along(drawing, one, row, senses) != f.felt_along(drawing, other, row, senses)]
                if unlike:
                    self.assertTrue(h.same(row, unlike[0]))
                if alike:
                    self.assertEqual(unlike, [])
                    self.assertEqual(pairs, tuple(sorted(pairs)))
                    self.assertTrue(is_likeness(drawing, one, other, pairs, senses))
                    self.assertIs(p.is_likeness(drawing, one, other, pairs, senses), True)
                else:
                    self.assertLessEqual(len(row), len(machines[0]) + len(machines[1]) - 2)
                    self.assertNotEqual(f.felt_along(drawing, one, row, senses), f.felt_along(drawing, other, row, senses))
                lengths[None if row is None else len(row)] = True
        self.assertTrue({None, 0, 1, 2} <= set(lengths), lengths)

    def test_senses_left_out(self):
        for drawing, cases in f.scenes(913, 6):
            one, other = cases[0], cases[-1]
            self.assertEqual(p.parting(drawing, one, other), p.parting(drawing, one, other, f.SENSES))
            self.assertEqual(p.are_alike(drawing, one, other), p.are_alike(drawing, one, other, f.SENSES))
            self.assertEqual(p.likeness(drawing, one, other), p.likeness(drawing, one, other, f.SENSES))
            self.assertEqual(p.kinds(drawing, cases), p.kinds(drawing, cases, f.SENSES))
            self.assertEqual(p.kinds_within(drawing, cases, 1), p.kinds_within(drawing, cases, 1, f.SENSES))

    def test_likenesses_judged(self):
        dice = random.Random(914)
        right = 0
        for drawing, cases in f.scenes(915, 14, 3):
            senses = dice.choice([(), ("up",), ("lost",), f.SENSES])
            one, other = dice.choice(cases), dice.choice(cases)
            pairs = p.likeness(drawing, one, other, senses)
            if pairs is None:
                self.assertIs(p.is_likeness(drawing, one, other, ((one[1], other[1]),), senses), False)
                # All pairs that come, though not all of them feel the same.
                met = [(one[1], other[1])]
                for here, there in met:
                    for move in MOVES:
                        pair = (behind(drawing, (one[0], here), move)[1], behind(drawing, (other[0], there), move)[1])
                        met += [pair] if pair not in met else []
                self.assertIs(p.is_likeness(drawing, one, other, tuple(met), senses), False)
                continue
            extra = p.likeness(drawing, (one[0], ()), (other[0], ()), senses)
            mixed = list(pairs) + [pair for pair in extra if pair not in pairs]
            dice.shuffle(mixed)
            self.assertIs(p.is_likeness(drawing, one, other, tuple(mixed), senses), True)
            right += 1
            h.never(self, lambda thing: p.is_likeness(drawing, one, other, thing, senses), [
                list(pairs), pairs + pairs[:1], tuple(list(pair) for pair in pairs), tuple(pair + ((),) for pair in pairs),
                pairs + (((0, True), (0, 0)),), pairs + ((None, None),), (),
            ])
            for k in range(len(pairs)):
                less = pairs[:k] + pairs[k + 1:]
                self.assertIs(p.is_likeness(drawing, one, other, less, senses), is_likeness(drawing, one, other, less, senses))
        self.assertGreater(right, 5)
        drawing = Drawing([(0, 0, 1, 1)])
        one = ((1, 1), (1, 1))
        pairs = p.likeness(drawing, one, one)
        self.assertIs(p.is_likeness(drawing, one, one, pairs), True)
        swapped = tuple(tuple(tuple(True if x == 1 else x for x in stand) for stand in pair) for pair in pairs)
        self.assertEqual(swapped, pairs)
        self.assertIs(p.is_likeness(drawing, one, one, swapped), False)

    def test_kinds(self):
        dice = random.Random(916)
        many = {}
        for drawing, cases in f.scenes(917, 14, 6):
            cases = cases + [cases[0]]
            senses = dice.choice(f.ALL_SENSES + [f.SENSES] * 9)
            kinds = h.ask(self, p.kinds, ["drawing", "cases", "senses"], [drawing, cases, senses])
            wanted = sorted({tuple(k for k, other in enumerate(cases) if p.are_alike(drawing, one, other, senses)) for one in cases})
            self.assertEqual(kinds, [list(kind) for kind in wanted])
            self.assertEqual(p.kinds(drawing, tuple(cases), senses), kinds)
            for number in (0, 1, 2):
                told = h.ask(self, p.kinds_within, ["drawing", "cases", "number", "senses"], [drawing, cases, number, senses])
                rows = [row for row in ROWS if len(row) <= number]
                groups = {}
                for k, case in enumerate(cases):
                    groups.setdefault(str([f.felt_along(drawing, case, row, senses) for row in rows]), []).append(k)
                self.assertEqual(told, sorted(groups.values()))
            self.assertEqual(p.kinds_within(drawing, cases, 99, senses), kinds)
            many[len(kinds)] = True
        self.assertGreater(len(many), 2)

    def test_by_hand(self):
        self.assertIs(p.are_alike(f.BLOCK, *f.BY_HAND), True)
        self.assertEqual(p.parting(f.BLOCK, FIRST, ((1, 2), (-1, 1))), [])
        self.assertEqual(p.parting(f.BLOCK, FIRST, ((1, 2), (-3, 9))), [("go", "right")])
        self.assertIsNone(p.parting(f.BLOCK, FIRST, ((1, 2), (-3, 9)), ("up",)))
        self.assertIsNone(p.likeness(f.BLOCK, FIRST, ((1, 2), ())))
        self.assertEqual(p.likeness(f.BLOCK, FIRST, ((1, 2), ()), ("left",))[0], ((), ()))
        self.assertEqual(p.kinds(f.BLOCK, f.BY_HAND + [((1, 2), ()), FIRST]), [[0, 1, 3], [2]])
        # Two posts, the second one higher: what is felt at first is the same.
        posts = Drawing([(0, 0, 2, 2), (10, 0, 12, 3)])
        one, other = ((1, 1), (-5, 1)), ((1, 1), (-5, 2))
        row = p.parting(posts, one, other)
        self.assertEqual(p.kinds_within(posts, [one, other], len(row)), [[0], [1]])
        self.assertEqual(p.kinds_within(posts, [one, other], len(row) - 1), [[0, 1]])

    def test_programs_end_alike(self):
        dice = random.Random(918)
        found = 0
        for drawing, cases in f.scenes(919, 20, 5):
            cases = [case for case in cases if case[1] != ()]
            for kind in p.kinds(drawing, cases) if cases else []:
                for k in kind[1:]:
                    for _ in range(6):
                        program = random_program(dice)
                        one, other = [run(drawing, *cases[i], program) for i in (kind[0], k)]
                        self.assertEqual(one[0], other[0])
                        if one[0] == "lost":
                            self.assertEqual(one, other)
                        found += 1
        self.assertGreater(found, 20)

    def test_wrong_inputs(self):
        other = f.BY_HAND[1]
        for function in (p.parting, p.are_alike, p.likeness):
            h.refuse(self, function, TWO + [SENSES], [f.BLOCK, FIRST, other, ("up",)])
        front = TWO + [("thing", None, None), SENSES]
        h.refuse(self, p.is_likeness, front, [f.BLOCK, FIRST, other, 1, ("up",)])
        for value in h.any_values():
            self.assertIs(p.is_likeness(f.BLOCK, FIRST, other, value), False)
        h.refuse(self, p.kinds, [DRAWING, CASES, SENSES], [f.BLOCK, f.BY_HAND, ("up",)])
        number = ("number", BadNumber, f.number_to_99)
        h.refuse(self, p.kinds_within, [DRAWING, CASES, number, SENSES], [f.BLOCK, f.BY_HAND, 3, ("up",)])
        h.fails(self, BadNumber, p.kinds_within, f.BLOCK, f.BY_HAND, 100)
        h.fails(self, BadCases, p.kinds, f.BLOCK, [])
        h.fails(self, BadCases, p.kinds, f.BLOCK, [FIRST, list(FIRST)])
        h.fails(self, BadCases, p.kinds, f.BLOCK, {FIRST: 1})
        h.fails(self, BadSenses, p.kinds, f.BLOCK, [FIRST], ("up", "left"))
        h.fails(self, BadDrawing, p.kinds, f.BLOCK.blocks, [FIRST])


if __name__ == "__main__":
    unittest.main()
