import random
import unittest

from gapstairs import detours as d
from gapstairs.drawings import Drawing
from gapstairs.errors import BadDrawing, BadIndex, BadSpot
from gapstairs.gaps import gap_grid
from tests import helpers as h
from tests.test_loops import walks_round

PARAMS = [("drawing", BadDrawing, h.drawing), ("spot", BadSpot, h.pair_of_numbers)]
ISLAND = Drawing(h.pen(0, 0, 14, 14) + [(5, 5, 8, 8)])


class Detours(unittest.TestCase):
    def test_a_walk_at_each_size(self):
        dice = random.Random(351)
        told = {True: 0, False: 0}
        scenes = h.two_spots(352, 14, 4) + [(ISLAND, (1, 1), (9, 9)), (ISLAND, (-3, 4), (3, 3))]
        for drawing, one, other in scenes:
            if not drawing.blocks:
                continue
            for spot, i in ((one, dice.randrange(len(drawing))), (other, dice.randrange(len(drawing)))):
                stairs = h.ask(self, d.loop_stairs, ["drawing", "spot", "i"], [drawing, spot, i])
                self.assertTrue(h.stairs(stairs))
                grid = gap_grid(drawing, [spot])
                for a, b in stairs:
                    self.assertTrue((a is None or a in grid[0]) and (b is None or b in grid[1]))
                block = drawing.blocks[i]
                for size in h.sizes_for(drawing, [spot]):
                    flood = h.Flood(drawing.blocks, size, [spot])
                    centre = (block[0] - size[0] + block[2], block[1] - size[1] + block[3])
                    wanted = spot in flood.home and walks_round(flood, spot, centre)
                    self.assertIs(h.stairs_has(stairs, size), wanted, (drawing.blocks, spot, i, size))
                    told[wanted] += 1
        self.assertGreater(min(told.values()), 150)

    def test_large_numbers(self):
        for drawing, one, other in h.two_spots(353, 8, 4):
            for i in range(len(drawing)):
                large, spot = h.huge(drawing, one)
                self.assertEqual(d.loop_stairs(large, spot, i), h.huge_stairs(d.loop_stairs(drawing, one, i)))

    def test_by_hand(self):
        i = ISLAND.blocks.index((5, 5, 8, 8))
        self.assertEqual(d.loop_stairs(ISLAND, (1, 1), i), ((4, 4),))
        self.assertEqual(d.loop_stairs(ISLAND, (1, 1), 0), ())
        self.assertEqual(d.loop_stairs(ISLAND, (0, 0), i), ())
        self.assertEqual(d.loop_stairs(ISLAND, (-3, 0), 0), ((3, None),))
        self.assertEqual(d.loop_stairs(ISLAND, (-3, 0), i), ((3, None),))
        self.assertEqual(d.loop_stairs(Drawing([(0, 0, 1, 1)]), (1, 1), 0), ((None, None),))

    def test_refused(self):
        index = ("i", BadIndex, h.index_below(5))
        h.refuse(self, d.loop_stairs, PARAMS + [index], [ISLAND, (1, 1), 4])
        h.fails(self, BadIndex, d.loop_stairs, Drawing([]), (0, 0), 0)
        h.fails(self, BadIndex, d.loop_stairs, ISLAND, (0, 0), -1)


if __name__ == "__main__":
    unittest.main()
