import random
import unittest

from gapstairs import gaps as g
from gapstairs.chambers import chambers
from gapstairs.drawings import Drawing
from gapstairs.errors import BadBody, BadDrawing, BadSpots
from gapstairs.fits import fits
from gapstairs.nears import near_pairs
from tests import helpers as h

FRONT = [("drawing", BadDrawing, h.drawing), ("spots", BadSpots, h.list_of(h.pair_of_numbers))]
BODY = ("body", BadBody, h.body)
TWO = Drawing([(0, 0, 2, 3), (4, 1, 5, 6)])


def least_top(numbers, size):
    for number in numbers:
        if number >= size:
            return number
    return None


class Gaps(unittest.TestCase):
    def test_grid(self):
        dice = random.Random(311)
        for blocks, _ in h.small_scenes(312, 30):
            drawing = Drawing(blocks)
            spots = [(dice.randint(-9, 9), dice.randint(-9, 9)) for _ in range(dice.randint(0, 4))]
            told = h.ask(self, g.gap_grid, ["drawing", "spots"], [drawing, spots])
            wide, high = set(), set()
            for left, low, _, _ in blocks:
                wide |= {left - right for _, _, right, _ in blocks} | {left - x for x, _ in spots}
                high |= {low - top for _, _, _, top in blocks} | {low - y for _, y in spots}
            wanted = tuple(tuple(sorted(n for n in numbers if n >= 1)) for numbers in (wide, high))
            self.assertTrue(h.same(told, wanted))
            self.assertEqual(g.gap_grid(drawing, tuple(spots + spots)), told)
            for size in h.bodies_to(6) + [(99, 2), (2, 99)]:
                top = g.top(drawing, spots, size)
                self.assertTrue(h.same(top, (least_top(told[0], size[0]), least_top(told[1], size[1]))))
            wide, high = [list(numbers) + [max(numbers, default=0) + 1] for numbers in told]
            bodies = h.ask(self, g.grid_bodies, ["drawing", "spots"], [drawing, spots])
            self.assertTrue(h.same(bodies, [(a, b) for a in wide for b in high]))

    def test_by_hand(self):
        self.assertEqual(g.gap_grid(Drawing([]), [(1, 2)]), ((), ()))
        self.assertEqual(g.grid_bodies(Drawing([]), []), [(1, 1)])
        self.assertEqual(g.top(Drawing([]), [], (5, 1)), (None, None))
        self.assertEqual(g.gap_grid(TWO, []), ((2,), ()))
        self.assertEqual(g.gap_grid(TWO, [(-3, 0)]), ((2, 3, 7), (1,)))
        self.assertEqual(g.top(TWO, [(-3, 0)], (3, 2)), (3, None))
        self.assertEqual(g.top(TWO, [(-3, 0)], (4, 1)), (7, 1))
        self.assertEqual(g.grid_bodies(TWO, [(-3, 0)]), [(a, b) for a in (2, 3, 7, 8) for b in (1, 2)])
        far = 999999999
        self.assertEqual(g.gap_grid(Drawing([(far - 1, 0, far, 1)]), [(-far, -far)]), ((2 * far - 1,), (far,)))

    def test_fact_bodies_of_one_top_are_alike(self):
        dice = random.Random(313)
        for blocks, _ in h.small_scenes(314, 25, 5):
            drawing = Drawing(blocks)
            spots = [(dice.randint(-7, 7), dice.randint(-7, 7)) for _ in range(4)]
            kinds = {}
            for size in h.bodies_to(9):
                like = ([fits(drawing, size, spot) for spot in spots], near_pairs(drawing, size), chambers(drawing, size, spots))
                self.assertEqual(kinds.setdefault(g.top(drawing, spots, size), like), like)

    def test_refused(self):
        good = [TWO, [(-3, 0)]]
        h.refuse(self, g.gap_grid, FRONT, good)
        h.refuse(self, g.grid_bodies, FRONT, good)
        h.refuse(self, g.top, FRONT + [BODY], good + [(1, 1)])
        for spots in ([(0, True)], [[0, 0]], (0, 0), None, {(0, 0): 1}):
            h.fails(self, BadSpots, g.gap_grid, TWO, spots)


if __name__ == "__main__":
    unittest.main()
