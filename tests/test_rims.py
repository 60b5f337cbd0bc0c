import unittest

from gapstairs import rims as r
from gapstairs.drawings import Drawing
from gapstairs.errors import BadBody, BadDrawing, BadSide, BadSpot, NotFree, NotTouched
from gapstairs.chambers import clusters
from gapstairs.nests import around
from gapstairs.sides import gone_round
from gapstairs.touching import SIDES, touching
from gapstairs.ways import is_way
from tests import helpers as h
from tests.test_touching import hit, scenes, slid

PARAMS = [
    ("drawing", BadDrawing, h.drawing), ("body", BadBody, h.body), ("spot", BadSpot, h.pair_of_numbers),
    ("side", BadSide, h.side),
]
NAMES = ["drawing", "body", "spot", "side"]
LEFT_OF = {"left": "down", "down": "right", "right": "up", "up": "left"}
RIGHT_OF = {turn: side for side, turn in LEFT_OF.items()}
ONE = Drawing([(0, 0, 4, 4)])
PEN = Drawing(h.pen(0, 0, 7, 6))


def after(drawing, size, hold):
    """The next hold, and whether it is an inner corner, found step by step."""
    spot, side = hold
    ahead = LEFT_OF[side]
    there = slid(drawing.blocks, size, spot, side, ahead)
    if hit(drawing.blocks, size, 2 * there[0], 2 * there[1], side):
        return (there, ahead), 1
    return (there, RIGHT_OF[side]), -1


def walk(drawing, size, hold):
    """The whole round, and the sum of its turns."""
    first, _ = after(drawing, size, hold)
    holds, turns = [first], 0
    while True:
        further, turn = after(drawing, size, holds[-1])
        turns += turn
        if further == first:
            return holds, turns
        holds.append(further)


class Rims(unittest.TestCase):
    def test_rounds_step_by_step(self):
        turned = {4: 0, -4: 0}
        for drawing, size, spot in scenes(511, 45, 6, 8):
            for side in SIDES:
                blocks = touching(drawing, size, spot, side)
                if not blocks:
                    h.fails(self, NotTouched, r.rim, drawing, size, spot, side)
                    h.fails(self, NotTouched, r.rim_turn, drawing, size, spot, side)
                    continue
                holds, turns = walk(drawing, size, (spot, side))
                self.assertTrue(h.same(h.ask(self, r.rim, NAMES, [drawing, size, spot, side]), holds))
                self.assertEqual(r.rim_turn(drawing, size, spot, side), turns)
                turned[turns] += 1
                self.check_facts(drawing, size, spot, blocks, holds, turns)
        self.assertGreater(min(turned.values()), 40)

    def check_facts(self, drawing, size, spot, blocks, holds, turns):
        way = [holds[0][0]]
        for place in [hold[0] for hold in holds[1:]] + [holds[0][0]]:
            if place != way[-1]:
                way.append(place)
        self.assertTrue(is_way(drawing, size, way) and way[0] == way[-1])
        piece, = [one for one in clusters(drawing, size) if blocks[0] in one]
        self.assertTrue(set(blocks) <= set(piece))
        outside = around(drawing, size, spot)
        self.assertIs(turns == 4, bool(outside) and outside[-1] == piece)
        self.assertIs(turns == -4, piece in gone_round(drawing, size, way))

    def test_by_hand(self):
        self.assertEqual(r.rim(ONE, (1, 2), (-1, 1), "right"), [
            ((-1, 4), "down"), ((4, 4), "left"), ((4, -2), "up"), ((-1, -2), "right")])
        self.assertEqual(r.rim_turn(ONE, (1, 2), (-1, 1), "right"), -4)
        self.assertEqual(r.rim(ONE, (1, 2), (0, 4), "down"), [
            ((4, 4), "left"), ((4, -2), "up"), ((-1, -2), "right"), ((-1, 4), "down")])
        self.assertEqual(r.rim(PEN, (2, 1), (1, 3), "left"), [
            ((1, 1), "down"), ((4, 1), "right"), ((4, 4), "up"), ((1, 4), "left")])
        self.assertEqual(r.rim_turn(PEN, (2, 1), (1, 3), "left"), 4)
        self.assertEqual(r.rim_turn(PEN, (5, 4), (1, 1), "left"), 4)
        self.assertEqual(r.rim(PEN, (5, 4), (1, 1), "left"), [((1, 1), side) for side in ("down", "right", "up", "left")])
        self.assertEqual(r.rim_turn(PEN, (2, 1), (0, 6), "down"), -4)

    def test_large_numbers(self):
        for drawing, size, spot in scenes(512, 10, 5, 4):
            large, place = h.huge(drawing, spot)
            wide = (size[0] * h.TIMES, size[1] * h.TIMES)
            for side in SIDES:
                if touching(drawing, size, spot, side):
                    wanted = [(h.huge(drawing, there)[1], held) for there, held in r.rim(drawing, size, spot, side)]
                    self.assertEqual(r.rim(large, wide, place, side), wanted)
                    self.assertEqual(r.rim_turn(large, wide, place, side), r.rim_turn(drawing, size, spot, side))

    def test_refused(self):
        good = [ONE, (1, 2), (-1, 1), "right"]
        h.refuse(self, r.rim, PARAMS, good)
        h.refuse(self, r.rim_turn, PARAMS, good)
        for function in (r.rim, r.rim_turn):
            h.fails(self, NotFree, function, ONE, (1, 2), (0, 0), "right")
            h.fails(self, NotTouched, function, ONE, (1, 2), (-1, 1), "left")
            h.fails(self, NotTouched, function, ONE, (1, 2), (-1, 4), "right")
            h.fails(self, NotTouched, function, Drawing([]), (1, 2), (-1, 4), "right")
            h.fails(self, BadSide, function, ONE, (1, 2), (0, 0), "top")


if __name__ == "__main__":
    unittest.main()
