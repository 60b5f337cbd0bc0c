import random
import unittest

from gapstairs import touching as t
from gapstairs.drawings import Drawing, flipped_drawing
from gapstairs.errors import BadAlong, BadBody, BadDrawing, BadSide, BadSpot, NotFree
from tests import helpers as h

FRONT = [("drawing", BadDrawing, h.drawing), ("body", BadBody, h.body), ("spot", BadSpot, h.pair_of_numbers)]
SIDE = ("side", BadSide, h.side)
STEPS = {"left": (-1, 0), "down": (0, -1), "right": (1, 0), "up": (0, 1)}
FLIP = {"left": "down", "down": "left", "right": "up", "up": "right"}
ACROSS = {"left": ("down", "up"), "right": ("down", "up"), "down": ("left", "right"), "up": ("left", "right")}
ONE = Drawing([(0, 0, 4, 4)])


def in_box(block, size, x4, y4):
    """Whether the place (x4 / 4, y4 / 4) lies in the barred box of the block."""
    left, low, right, high = block
    return 4 * (left - size[0]) < x4 < 4 * right and 4 * (low - size[1]) < y4 < 4 * high


def hit(blocks, size, x2, y2, side):
    """The blocks into which a move of a quarter leads from the place (x2 / 2, y2 / 2)."""
    dx, dy = STEPS[side]
    return [i for i, block in enumerate(blocks) if in_box(block, size, 2 * x2 + dx, 2 * y2 + dy)]


def gone(blocks, size, spot, side, most=60):
    """Step by step, a whole one at a time."""
    x, y = spot
    for _ in range(most):
        if hit(blocks, size, 2 * x, 2 * y, side):
            return (x, y)
        x, y = x + STEPS[side][0], y + STEPS[side][1]
    return None


def slid(blocks, size, spot, side, along):
    """Step by step, half a step at a time, looking at all places that are passed."""
    dx, dy = STEPS[along]
    x2, y2 = 2 * spot[0], 2 * spot[1]
    best = spot
    while not hit(blocks, size, x2, y2, along):
        x2, y2 = x2 + dx, y2 + dy
        if h.is_barred(blocks, size, x2, y2):
            break
        if x2 % 2 == 0 and y2 % 2 == 0:
            best = (x2 // 2, y2 // 2)
        if not hit(blocks, size, x2, y2, side):
            # At the last place the side need not be touched.
            return best
    return best


def scenes(seed, rounds=45, most=6, spots=14):
    dice = random.Random(seed)
    found = []
    for blocks, size in h.small_scenes(seed, rounds, most):
        drawing = Drawing(blocks)
        flood = h.Flood(drawing.blocks, size)
        near = [spot for spot in flood.spots() if any(hit(drawing.blocks, size, 2 * spot[0], 2 * spot[1], s) for s in STEPS)]
        for spot in dice.sample(near, min(spots, len(near))) + dice.sample(flood.spots(), 3):
            found.append((drawing, size, spot))
    return found


class Touching(unittest.TestCase):
    def test_sides(self):
        self.assertEqual(t.SIDES, ("left", "down", "right", "up"))

    def test_touching_by_quarters(self):
        told = 0
        for drawing, size, spot in scenes(501):
            sides = []
            for side in t.SIDES:
                wanted = hit(drawing.blocks, size, 2 * spot[0], 2 * spot[1], side)
                names = ["drawing", "body", "spot", "side"]
                self.assertEqual(h.ask(self, t.touching, names, [drawing, size, spot, side]), wanted)
                told += len(wanted)
                if wanted:
                    sides.append(side)
            self.assertEqual(t.touched(drawing, size, spot), tuple(sides))
        self.assertGreater(told, 300)

    def test_gone_step_by_step(self):
        ends = {True: 0, False: 0}
        for drawing, size, spot in scenes(502):
            for side in t.SIDES:
                wanted = gone(drawing.blocks, size, spot, side)
                self.assertEqual(t.gone(drawing, size, spot, side), wanted)
                self.assertEqual(t.gone(flipped_drawing(drawing), size[::-1], spot[::-1], FLIP[side]), wanted and wanted[::-1])
                ends[wanted is None] += 1
        self.assertGreater(min(ends.values()), 300)

    def test_slid_step_by_step(self):
        far = {True: 0, False: 0}
        for drawing, size, spot in scenes(503):
            for side in t.SIDES:
                for along in ACROSS[side]:
                    wanted = slid(drawing.blocks, size, spot, side, along)
                    told = t.slid(drawing, size, spot, side, along)
                    self.assertEqual(told, wanted, (drawing.blocks, size, spot, side, along))
                    turned = t.slid(flipped_drawing(drawing), size[::-1], spot[::-1], FLIP[side], FLIP[along])
                    self.assertEqual(turned, wanted[::-1])
                    far[told != spot] += 1
        self.assertGreater(min(far.values()), 300)

    def test_by_hand(self):
        self.assertEqual(t.touching(ONE, (1, 2), (4, 0), "left"), [0])
        self.assertEqual(t.touching(ONE, (1, 2), (4, -2), "left"), [])
        self.assertEqual(t.touching(ONE, (1, 2), (4, 4), "left"), [])
        self.assertEqual(t.touched(ONE, (1, 2), (4, 4)), ())
        self.assertEqual(t.touched(ONE, (1, 2), (3, 4)), ("down",))
        self.assertEqual(t.touched(ONE, (1, 2), (-1, 3)), ("right",))
        self.assertEqual(t.touched(ONE, (1, 2), (0, -2)), ("up",))
        self.assertEqual(t.gone(ONE, (1, 2), (-3, 1), "right"), (-1, 1))
        self.assertIsNone(t.gone(ONE, (1, 2), (-3, 4), "right"))
        self.assertIsNone(t.gone(ONE, (1, 2), (-3, 1), "left"))
        self.assertEqual(t.gone(ONE, (1, 2), (-1, 1), "right"), (-1, 1))
        self.assertEqual(t.slid(ONE, (1, 2), (-1, 1), "right", "up"), (-1, 4))
        self.assertEqual(t.slid(ONE, (1, 2), (-1, 1), "right", "down"), (-1, -2))
        self.assertEqual(t.slid(ONE, (1, 2), (-1, -2), "right", "up"), (-1, 4))
        self.assertEqual(t.slid(ONE, (1, 2), (-1, -2), "right", "down"), (-1, -2))
        self.assertEqual(t.slid(ONE, (1, 2), (-2, 1), "right", "up"), (-2, 1))
        wall = Drawing([(0, 0, 1, 4), (0, 4, 1, 8), (0, 9, 1, 12), (-2, 10, 0, 11)])
        self.assertEqual(t.slid(wall, (1, 1), (1, 0), "left", "up"), (1, 8))
        self.assertEqual(t.slid(wall, (1, 2), (1, 0), "left", "up"), (1, 12))
        self.assertEqual(t.slid(wall, (1, 2), (-1, 0), "right", "up"), (-1, 8))
        self.assertEqual(t.slid(wall, (1, 2), (-1, 0), "right", "down"), (-1, -2))
        apart = Drawing([(0, 0, 1, 4), (0, 6, 1, 8)])
        self.assertEqual(t.slid(apart, (1, 2), (1, 0), "left", "up"), (1, 4))
        self.assertEqual(t.slid(apart, (1, 3), (1, 0), "left", "up"), (1, 8))
        self.assertEqual(t.slid(apart, (1, 2), (1, 4), "left", "up"), (1, 8))
        none = Drawing([])
        self.assertEqual(t.touched(none, (5, 5), (0, 0)), ())
        self.assertIsNone(t.gone(none, (5, 5), (0, 0), "up"))
        self.assertEqual(t.slid(none, (5, 5), (0, 0), "up", "left"), (0, 0))
        far = 999999999
        self.assertEqual(t.gone(ONE, (far, far), (far, 0), "left"), (4, 0))
        self.assertEqual(t.gone(Drawing([(-far, -far, far, 0)]), (3, far), (-far, far), "down"), (-far, 0))

    def test_refused(self):
        good = [ONE, (1, 2), (4, 0)]
        h.refuse(self, t.touching, FRONT + [SIDE], good + ["left"])
        h.refuse(self, t.gone, FRONT + [SIDE], good + ["left"])
        h.refuse(self, t.touched, FRONT, good)
        across = ("along", BadAlong, lambda thing: h.side(thing) and thing in ("up", "down"))
        h.refuse(self, t.slid, FRONT + [SIDE, across], good + ["left", "up"])
        for along in ("left", "right", None, "UP", ("up",)):
            h.fails(self, BadAlong, t.slid, *good, "right", along)
            h.fails(self, BadAlong, t.slid, ONE, (1, 2), (0, 0), "right", along)
        for function, more in ((t.touching, ["up"]), (t.gone, ["up"]), (t.slid, ["up", "left"]), (t.touched, [])):
            h.fails(self, NotFree, function, ONE, (1, 2), (0, 0), *more)
            if more:
                h.fails(self, BadSide, function, ONE, (1, 2), (0, 0), "upwards", *more[1:])


if __name__ == "__main__":
    unittest.main()
