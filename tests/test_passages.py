import random
import unittest

from gapstairs import passages as p
from gapstairs.drawings import Drawing, flipped_drawing, put, scaled, shifted
from gapstairs.errors import BadDrawing, BadSpot, BadSpots
from gapstairs.gaps import gap_grid
from gapstairs.grounds import ground_of, kept
from gapstairs.stairs import ALL, flipped, inside
from gapstairs.webs import Web, closed, link
from tests import helpers as h

DRAWING = ("drawing", BadDrawing, h.drawing)
SPOT = ("spot", BadSpot, h.pair_of_numbers)
ENDS = [("one", BadSpot, h.pair_of_numbers), ("other", BadSpot, h.pair_of_numbers)]
GATE = Drawing([(0, 0, 9, 1), (0, 8, 9, 9), (0, 0, 1, 9), (8, 0, 9, 6)])
SCENES = h.two_spots(321, 25)


class Passages(unittest.TestCase):
    def test_a_walk_at_each_size(self):
        held = 0
        for drawing, one, other in SCENES:
            told = h.ask(self, p.stairs_between, ["drawing", "one", "other"], [drawing, one, other])
            out = h.ask(self, p.stairs_out, ["drawing", "spot"], [drawing, one])
            self.assertTrue(h.stairs(told) and h.stairs(out))
            for size in h.sizes_for(drawing, [one, other]):
                flood = h.Flood(drawing.blocks, size, [one, other])
                self.assertIs(h.stairs_has(told, size), flood.share(one, other), (drawing.blocks, one, other, size))
                self.assertIs(h.stairs_has(out, size), one in flood.home and flood.home[one] == flood.outer())
                held += h.stairs_has(told, size)
        self.assertGreater(held, 200)

    def test_each_size_up_to_one(self):
        for drawing, one, other in SCENES[:18]:
            told = p.stairs_between(drawing, one, other)
            wanted = {size for size in h.bodies_to(8) if h.Flood(drawing.blocks, size, [one, other]).share(one, other)}
            self.assertEqual(h.held_set(told, 8), wanted)

    def test_by_hand(self):
        self.assertEqual(p.stairs_between(GATE, (2, 2), (20, 0)), ((6, 2),))
        self.assertEqual(p.stairs_out(GATE, (1, 1)), ((7, 2),))
        self.assertEqual(p.stairs_out(GATE, (4, 7)), ((None, 1),))
        self.assertEqual(p.stairs_between(GATE, (1, 1), (1, 1)), ((7, 7),))
        self.assertEqual(p.stairs_between(GATE, (0, 0), (20, 0)), ())
        self.assertEqual(p.stairs_between(Drawing([]), (0, 0), (20, 0)), ALL)
        self.assertEqual(p.stairs_out(Drawing([]), (-5, 3)), ALL)
        self.assertEqual(p.stairs_out(Drawing(h.pen(0, 0, 9, 9)), (3, 3)), ())
        self.assertEqual(p.stairs_out(Drawing([(0, 0, 1, 1)]), (-2, -3)), ((2, None), (None, 3)))
        far = 999999999
        wall = Drawing([(-far, -far, -far + 1, 0), (-far, 3, -far + 1, far)])
        self.assertEqual(p.stairs_between(wall, (far, far), (far, -far)), ALL)
        self.assertEqual(p.stairs_between(Drawing([(0, -far, 1, 0), (0, 3, 1, far)]), (-9, 0), (9, 0)), ((9, None), (None, 3)))

    def test_facts_of_moved_and_flipped_drawings(self):
        dice = random.Random(322)
        for drawing, one, other in SCENES:
            told = p.stairs_between(drawing, one, other)
            self.assertEqual(p.stairs_between(drawing, other, one), told)
            turned = p.stairs_between(flipped_drawing(drawing), one[::-1], other[::-1])
            self.assertEqual(turned, flipped(told))
            times = dice.randint(2, 5)
            many = [tuple(times * item for item in spot) for spot in (one, other)]
            larger = tuple(tuple(item and times * item for item in corner) for corner in told)
            self.assertEqual(p.stairs_between(scaled(drawing, times), *many), larger)
            by = (dice.randint(-9, 9), dice.randint(-9, 9))
            there = [(x + by[0], y + by[1]) for x, y in (one, other)]
            self.assertEqual(p.stairs_between(shifted(drawing, by), *there), told)
            grid = gap_grid(drawing, [one, other])
            for a, b in told:
                self.assertTrue((a is None or a in grid[0]) and (b is None or b in grid[1]))

    def test_facts_of_blocks_and_grounds(self):
        dice = random.Random(323)
        for drawing, one, other in SCENES:
            told = p.stairs_between(drawing, one, other)
            more = h.random_blocks(dice, 1, 5, 3)[0]
            if more not in drawing:
                self.assertTrue(inside(p.stairs_between(put(drawing, more), one, other), told))
            few = Drawing([drawing.blocks[i] for i in kept(drawing)])
            self.assertEqual(ground_of(few), ground_of(drawing))
            self.assertEqual(p.stairs_between(few, one, other), told)

    def test_lattices_and_pens(self):
        twelve = Drawing(h.lattice(6, 3))
        self.assertEqual(p.stairs_between(twelve, (1, 1), (5, 5)), ())
        self.assertEqual(p.stairs_between(twelve, (1, 1), (1, 1)), ((3, 3),))
        self.assertEqual(p.stairs_out(twelve, (-7, 2)), ((7, None),))
        nested = Drawing(h.pen(0, 0, 20, 20) + h.pen(3, 3, 17, 17) + h.pen(6, 6, 14, 14))
        self.assertEqual(p.stairs_between(nested, (1, 1), (18, 18)), ((1, 1),))
        self.assertEqual(p.stairs_between(nested, (4, 4), (4, 15)), ((2, 1),))
        self.assertEqual(p.stairs_between(nested, (4, 4), (1, 1)), ())
        heap = Drawing([(-k, -k, k, k) for k in range(1, 13)])
        self.assertEqual(p.stairs_between(heap, (12, 0), (-14, 0)), ((2, None),))
        self.assertEqual(p.stairs_between(heap, (12, 12), (-14, 12)), ALL)


class StairsWebs(unittest.TestCase):
    def test_webs(self):
        dice = random.Random(324)
        for drawing, one, other in SCENES:
            spots = [one, other] + [(dice.randint(-9, 9), dice.randint(-9, 9)) for _ in range(3)]
            web = p.stairs_web(drawing, spots)
            self.assertEqual(web.places, 5)
            for i in range(5):
                for j in range(i + 1, 5):
                    self.assertEqual(link(web, i, j), p.stairs_between(drawing, spots[i], spots[j]))
            self.assertEqual(closed(web), web)
            self.assertEqual(p.stairs_web(drawing, tuple(spots)), web)

    def test_edges(self):
        self.assertEqual(p.stairs_web(GATE, [(0, 0)]), Web(1, {}))
        self.assertEqual(p.stairs_web(GATE, [(0, 0), (0, 0)]), Web(2, {}))
        self.assertEqual(p.stairs_web(Drawing([]), [(3, 3)] * 12), Web(12, {(i, j): ALL for i in range(12) for j in range(i + 1, 12)}))
        self.assertEqual(p.stairs_web(GATE, [(1, 1), (20, 0), (20, 9)]).links[(0, 1)], ((7, 2),))

    def test_refused(self):
        h.refuse(self, p.stairs_between, [DRAWING] + ENDS, [GATE, (2, 2), (20, 0)])
        h.refuse(self, p.stairs_out, [DRAWING, SPOT], [GATE, (2, 2)])

        def good(thing):
            return h.list_of(h.pair_of_numbers)(thing) and 1 <= len(thing) <= 12
        h.refuse(self, p.stairs_web, [DRAWING, ("spots", BadSpots, good)], [GATE, [(2, 2), (20, 0)]])
        for spots in ([], (), [(0, 0)] * 13, [(0, True)], [[0, 0]], None):
            h.fails(self, BadSpots, p.stairs_web, GATE, spots)


if __name__ == "__main__":
    unittest.main()
