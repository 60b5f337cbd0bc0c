import random
import unittest

from gapstairs import sweeps as s
from gapstairs.chambers import closed_chambers, is_outdoors
from gapstairs.covers import filled
from gapstairs.drawings import Drawing
from gapstairs.errors import BadBody, BadDrawing, BadSpot, NotFree, Outdoors, TooMany
from gapstairs.grounds import Ground, drawing_of, ground_of
from tests import helpers as h
from tests.test_grounds import bands_of

FRONT = [("drawing", BadDrawing, h.drawing), ("body", BadBody, h.body)]
SPOT = ("spot", BadSpot, h.pair_of_numbers)
PEN = Drawing(h.pen(0, 0, 7, 6))
SCENES = [(Drawing(blocks), body) for blocks, body in h.small_scenes(101, 40)]


def hull_cells(blocks):
    if not blocks:
        return set()
    return h.cells_of([(
        min(b[0] for b in blocks), min(b[1] for b in blocks), max(b[2] for b in blocks), max(b[3] for b in blocks),
    )])


class Sweeps(unittest.TestCase):
    def test_cell_by_cell(self):
        for drawing, body in SCENES:
            flood = h.Flood(drawing.blocks, body)
            outside = set()
            inside = {}
            for spot, home in flood.home.items():
                target = outside if home == flood.outer() else inside.setdefault(home, set())
                target |= h.covered(body, spot)
            wanted = hull_cells(drawing.blocks) - outside
            self.assertEqual(s.unswept(drawing, body).bands, bands_of(wanted))
            for spot in list(flood.home)[::17] + flood.closed():
                home = flood.home[spot]
                if home == flood.outer():
                    h.fails(self, Outdoors, s.swept, drawing, body, spot)
                else:
                    self.assertEqual(s.swept(drawing, body, spot).bands, bands_of(inside[home]))

    def test_heart_filled(self):
        for drawing, body in SCENES:
            left = s.unswept(drawing, body)
            for spot in closed_chambers(drawing, body):
                left = left - s.swept(drawing, body, spot)
            self.assertEqual(left, filled(ground_of(drawing), body))

    def test_heart_walled_up(self):
        dice = random.Random(102)
        tried = 0
        for drawing, body in SCENES:
            try:
                walled = drawing_of(s.unswept(drawing, body))
            except TooMany:
                continue
            tried += 1
            large = (body[0] + dice.randint(0, 2), body[1] + dice.randint(0, 2))
            flood = h.Flood(drawing.blocks, large)
            for spot in [(x, y) for x in range(flood.left, flood.right) for y in range(flood.low, flood.high)][::5]:
                self.assertIs(is_outdoors(walled, large, spot), is_outdoors(drawing, large, spot))
        self.assertGreater(tried, 20)

    def test_edges(self):
        self.assertEqual(s.unswept(Drawing([]), (3, 3)), Ground(()))
        self.assertEqual(s.unswept(Drawing([(-9, 2, 999999999, 5)]), (3, 3)), Ground(((2, 5, ((-9, 999999999),)),)))
        self.assertEqual(s.swept(PEN, (5, 4), (1, 1)), Ground(((1, 5, ((1, 6),)),)))
        self.assertEqual(s.swept(PEN, (1, 1), (3, 2)), Ground(((1, 5, ((1, 6),)),)))
        self.assertEqual(s.unswept(PEN, (1, 1)), Ground(((0, 6, ((0, 7),)),)))

    def test_the_same_cells_in_two_chambers(self):
        drawing = Drawing(h.pen(0, 0, 7, 6) + [(5, 1, 6, 2), (1, 4, 2, 5)])
        self.assertEqual(closed_chambers(drawing, (4, 3)), [(1, 1), (2, 2)])
        one, other = s.swept(drawing, (4, 3), (1, 1)), s.swept(drawing, (4, 3), (2, 2))
        self.assertEqual(one & other, Ground(((2, 4, ((2, 5),)),)))

    def test_refused(self):
        good = [PEN, (2, 2), (3, 3)]
        h.refuse(self, s.swept, FRONT + [SPOT], good)
        h.refuse(self, s.unswept, FRONT, [PEN, (2, 2)])
        h.fails(self, NotFree, s.swept, PEN, (2, 2), (0, 0))
        h.fails(self, Outdoors, s.swept, PEN, (2, 2), (-2, 0))
        h.fails(self, Outdoors, s.swept, Drawing([]), (2, 2), (-2, 0))


if __name__ == "__main__":
    unittest.main()
