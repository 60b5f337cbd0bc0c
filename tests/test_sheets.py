import random
import unittest

from gapstairs import sheets as s
from gapstairs.drawings import Drawing
from gapstairs.errors import BadBody, BadDrawing, BadMany, BadSpot, NotFree
from gapstairs.marks import mark
from gapstairs.nears import near_pairs
from gapstairs.rings import is_parting
from gapstairs.sides import sides
from tests import helpers as h
from tests.test_rings import all_rings

FRONT = [
    ("drawing", BadDrawing, h.drawing), ("body", BadBody, h.body), ("one", BadSpot, h.pair_of_numbers),
    ("other", BadSpot, h.pair_of_numbers),
]
MANY = ("many", BadMany, h.from_zero)
PEN = Drawing(h.pen(0, 0, 7, 6))
EIGHT = Drawing(
    [(0, 0, 4, 1), (4, 0, 9, 1), (8, 1, 9, 5), (8, 5, 9, 9), (0, 8, 4, 9), (4, 8, 8, 9), (0, 1, 1, 4), (0, 4, 1, 8)])
FIVE = Drawing([(0, 0, 4, 1), (4, 0, 9, 1), (8, 1, 9, 9), (0, 8, 8, 9), (0, 1, 1, 8)])


def scenes(seed, rounds=30, most=6):
    """Drawings, bodies and two spots at which the body fits, some of them in closed chambers."""
    dice = random.Random(seed)
    found = [(FIVE, (1, 1), (2, 2), (-3, 4)), (PEN, (1, 1), (1, 1), (9, 9)), (EIGHT, (1, 1), (2, 2), (-3, 4)), (EIGHT, (5, 3), (-9, 2), (2, 2))]
    for blocks, size in h.small_scenes(seed, rounds, most):
        flood = h.Flood(blocks, size)
        closed = [spot for spot in flood.spots() if flood.home[spot] != flood.outer()]
        for _ in range(3):
            one = dice.choice(closed or flood.spots())
            other = dice.choice(dice.choice([closed or flood.spots(), flood.spots()]))
            found.append((Drawing(blocks), size, one, other))
    return found


def parting_rings(drawing, body, one, other):
    return [ring for ring in all_rings(drawing, body) if is_parting(drawing, body, one, other, ring)]


def are_sheets(drawing, body, one, other, many, thing):
    """Whether a dict with the right keys is sheet heights, looked at pair by pair."""
    near = near_pairs(drawing, body)
    unlike = {(j, k): (mark(drawing, body, one, j, k) + mark(drawing, body, other, j, k)) % 2 for j, k in near}
    for i, table in thing.items():
        if min(table.values()) < 0 or table[(i, 0)] != 0 or table[(i, 1)] <= many:
            return False
        for j, k in near:
            for sheet in (0, 1):
                if abs(table[(j, sheet)] - table[(k, sheet ^ unlike[(j, k)])]) > 1:
                    return False
    return True


class Shortest(unittest.TestCase):
    def test_among_all_rings(self):
        lengths = {}
        for drawing, body, one, other in scenes(401):
            if len(drawing) > 6:
                continue
            names = ["drawing", "body", "one", "other"]
            ring = h.ask(self, s.shortest_ring, names, [drawing, body, one, other])
            number = h.ask(self, s.fewest_around, names, [drawing, body, one, other])
            every = parting_rings(drawing, body, one, other)
            wanted = min([len(one) for one in every], default=None)
            self.assertTrue(h.same(number, wanted))
            lengths[wanted] = lengths.get(wanted, 0) + 1
            if ring is None:
                self.assertEqual(every, [])
            else:
                self.assertIn(ring, every)
                self.assertEqual(len(ring), wanted)
        self.assertTrue({None, 4, 5} <= set(lengths), lengths)

    def test_by_hand(self):
        self.assertEqual(s.shortest_ring(PEN, (1, 1), (1, 1), (9, 9)), (0, 1, 3, 2))
        self.assertEqual(s.fewest_around(PEN, (1, 1), (9, 9), (1, 1)), 4)
        self.assertEqual(s.fewest_around(EIGHT, (1, 1), (2, 2), (-3, 4)), 8)
        self.assertIsNone(s.shortest_ring(PEN, (1, 1), (1, 1), (2, 2)))
        self.assertIsNone(s.fewest_around(PEN, (1, 1), (1, 1), (1, 1)))
        self.assertIsNone(s.fewest_around(Drawing([]), (1, 1), (1, 1), (2, 2)))
        self.assertIsNone(s.fewest_around(Drawing([(0, 0, 1, 1)]), (1, 1), (1, 1), (-2, 2)))
        twelve = Drawing(h.lattice(6, 2))
        self.assertEqual(s.fewest_around(twelve, (1, 1), (1, 1), (4, 4)), 4)
        # Two pens in one another: the inner one has the shorter ring.
        nested = Drawing(list(EIGHT.blocks) + h.pen(2, 2, 7, 7))
        self.assertEqual(s.fewest_around(nested, (1, 1), (4, 4), (-3, 4)), 4)
        self.assertEqual(s.fewest_around(nested, (1, 1), (1, 1), (-3, 4)), 8)
        self.assertEqual(s.fewest_around(nested, (1, 1), (1, 1), (4, 4)), 4)


class Heights(unittest.TestCase):
    def test_heart_a_ring_or_heights(self):
        told = {True: 0, False: 0}
        for drawing, body, one, other in scenes(402, 20):
            number = s.fewest_around(drawing, body, one, other)
            for many in (0, 2, 3, 4, 5, 8, 999999999):
                front = [drawing, body, one, other, many]
                heights = h.ask(self, s.sheet_heights, ["drawing", "body", "one", "other", "many"], front)
                barred = number is not None and number <= many
                told[barred] += 1
                self.assertIs(heights is None, barred)
                if barred:
                    continue
                blocks = range(len(drawing))
                self.assertEqual(list(heights), list(blocks))
                for table in heights.values():
                    self.assertEqual(list(table), [(j, sheet) for j in blocks for sheet in (0, 1)])
                self.assertTrue(are_sheets(*front, heights))
                self.assertIs(s.are_sheet_heights(*front, heights), True)
                turned = {i: dict(reversed(list(heights[i].items()))) for i in reversed(list(heights))}
                self.assertIs(s.are_sheet_heights(*front, turned), True)
            self.assertIs(number is None, sides(drawing, body, one, other) is not None)
        self.assertGreater(min(told.values()), 80)

    def test_all_are_judged(self):
        dice = random.Random(403)
        told = {True: 0, False: 0}
        for drawing, body, one, other in scenes(404, 20, 4):
            if len(drawing) > 4 or not drawing.blocks:
                continue
            for many in (0, 1, 3):
                first = s.sheet_heights(drawing, body, one, other, many)
                if first is None:
                    pairs = [(j, sheet) for j in range(len(drawing)) for sheet in (0, 1)]
                    first = {i: {pair: dice.randint(0, many + 1) for pair in pairs} for i in range(len(drawing))}
                for _ in range(6):
                    thing = {i: dict(table) for i, table in first.items()}
                    for _ in range(dice.randint(0, 2)):
                        table = thing[dice.randrange(len(drawing))]
                        table[dice.choice(list(table))] += dice.choice([-1, 1, 1, 2])
                    wanted = are_sheets(drawing, body, one, other, many, thing)
                    self.assertIs(s.are_sheet_heights(drawing, body, one, other, many, thing), wanted)
                    told[wanted] += 1
        self.assertGreater(min(told.values()), 60)

    def test_any_value(self):
        one = (Drawing([(0, 0, 1, 1)]), (1, 1), (2, 2), (-3, 0), 0)
        good = {0: {(0, 0): 0, (0, 1): 1}}
        self.assertEqual(s.sheet_heights(*one), good)
        self.assertIs(s.are_sheet_heights(*one, {0: {(0, 1): 7, (0, 0): 0}}), True)
        h.never(self, lambda thing: s.are_sheet_heights(*one, thing), [
            {False: good[0]}, {0: {(False, 0): 0, (0, 1): 1}}, {0: {(0, 0): 0, (0, True): 1}}, {0: {(0, 0): 0, (0, 1): 0}},
            {0: {(0, 0): False, (0, 1): 1}}, {0: {(0, 0): 0, (0, 1): True}}, {0: {(0, 0): 1, (0, 1): 1}}, {}, None, [good[0]],
            {0: [((0, 0), 0), ((0, 1), 1)]}, {0: {(0, 0): 0}}, {0: {**good[0], (1, 0): 0}}, {**good, 1: good[0]}, {1: good[0]},
            {0: {(0, 0): 0, (0, 1): "1"}}, {0: {(0, 0): 0, (0, 2): 1}}, {0: {(0, 0, 0): 0, (0, 1): 1}}, {0: {(0, 0): -1, (0, 1): 1}},
        ])
        two = (Drawing([(0, 0, 1, 1), (9, 0, 10, 1)]), (1, 1), (2, 2), (-3, 0), 0)
        first = {(0, 0): 0, (0, 1): 1, (1, 0): 0, (1, 1): 0}
        second = {(0, 0): 0, (0, 1): 0, (1, 0): 0, (1, 1): 1}
        self.assertIs(s.are_sheet_heights(*two, {0: first, 1: second}), True)
        for pair in ((1, 0), (1, 1)):
            self.assertIs(s.are_sheet_heights(*two, {0: {**first, pair: -1}, 1: second}), False)
        none = (Drawing([]), (1, 1), (2, 2), (-3, 0), 5)
        self.assertEqual(s.sheet_heights(*none), {})
        self.assertIs(s.are_sheet_heights(*none, {}), True)
        for front in (one, none, (PEN, (1, 1), (1, 1), (9, 9), 3)):
            h.judge_any(self, s.are_sheet_heights, *front)

    def test_refused(self):
        good = [PEN, (1, 1), (1, 1), (9, 9)]
        h.refuse(self, s.shortest_ring, FRONT, good)
        h.refuse(self, s.fewest_around, FRONT, good)
        h.refuse(self, s.sheet_heights, FRONT + [MANY], good + [3])
        h.refuse(self, s.are_sheet_heights, FRONT + [MANY, ("thing", None, None)], good + [3, None])
        for ends in (((0, 0), (9, 9)), ((9, 9), (0, 0))):
            h.fails(self, NotFree, s.shortest_ring, PEN, (1, 1), *ends)
            h.fails(self, NotFree, s.fewest_around, PEN, (1, 1), *ends)
            h.fails(self, NotFree, s.sheet_heights, PEN, (1, 1), *ends, 3)
            h.fails(self, NotFree, s.are_sheet_heights, PEN, (1, 1), *ends, 3, None)
            h.fails(self, BadMany, s.sheet_heights, PEN, (1, 1), *ends, -1)
            h.fails(self, BadMany, s.are_sheet_heights, PEN, (1, 1), *ends, True, None)


if __name__ == "__main__":
    unittest.main()
