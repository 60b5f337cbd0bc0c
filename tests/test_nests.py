import random
import unittest

from gapstairs import nests as n
from gapstairs.chambers import closed_chambers, clusters
from gapstairs.drawings import Drawing
from gapstairs.errors import BadBody, BadDrawing, BadIndex, BadSpot, NotFree
from gapstairs.fits import fits
from tests import helpers as h
from tests.test_rings import all_rings, parity_of

FRONT = [("drawing", BadDrawing, h.drawing), ("body", BadBody, h.body)]
SPOT = ("spot", BadSpot, h.pair_of_numbers)
SCENES = [(Drawing(blocks), body) for blocks, body in h.small_scenes(161, 40, 6)]
THREE = Drawing(h.pen(0, 0, 20, 20) + h.pen(3, 3, 17, 17) + h.pen(6, 6, 14, 14))


def pieces_around(drawing, body, spot):
    found = {piece for piece in clusters(drawing, body) if any(
        parity_of(drawing, body, ring, spot) for ring in all_rings(drawing, body) if ring[0] in piece)}
    return found


class Doorsteps(unittest.TestCase):
    def test_doorstep(self):
        for drawing, body in SCENES:
            for piece in clusters(drawing, body):
                left, low = drawing.blocks[piece[0]][:2]
                self.assertEqual(left, min(drawing.blocks[i][0] for i in piece))
                for i in piece:
                    told = n.doorstep(drawing, body, i)
                    self.assertTrue(h.same(told, (left - body[0], low - body[1] + 1)))
                    self.assertTrue(fits(drawing, body, told))
                if len(drawing.blocks) <= 6:
                    self.assertNotIn(piece, pieces_around(drawing, body, told))
        h.refuse(self, n.doorstep, FRONT + [("i", BadIndex, h.index_below(12))], [THREE, (1, 1), 3])
        h.fails(self, BadIndex, n.doorstep, Drawing([]), (1, 1), 0)


class Around(unittest.TestCase):
    def test_all_rings(self):
        dice = random.Random(162)
        for drawing, body in SCENES:
            if len(drawing.blocks) > 6:
                continue
            spots = h.Flood(drawing.blocks, body).spots()
            for spot in dice.sample(spots, min(8, len(spots))) + closed_chambers(drawing, body):
                told = n.around(drawing, body, spot)
                self.assertEqual(set(told), pieces_around(drawing, body, spot))
                self.assertEqual(len(set(told)), len(told))

    def test_outermost_first(self):
        pieces = clusters(THREE, (1, 1))
        self.assertEqual(len(pieces), 3)
        outer, middle, inner = sorted(pieces, key=lambda piece: THREE.blocks[piece[0]][0])
        self.assertTrue(h.same(h.ask(self, n.around, ["drawing", "body", "spot"], [THREE, (1, 1), (9, 9)]), [outer, middle, inner]))
        self.assertEqual(n.around(THREE, (2, 2), (4, 8)), [outer, middle])
        self.assertEqual(n.around(THREE, (2, 2), (1, 1)), [outer])
        self.assertEqual(n.around(THREE, (2, 2), (-2, 1)), [])
        self.assertEqual(h.ask(self, n.nest, ["drawing", "body"], [THREE, (1, 1)]), {outer: None, middle: outer, inner: middle})
        # Too wide a body finds all in one piece.
        self.assertEqual(n.nest(THREE, (3, 3)), {tuple(range(12)): None})
        self.assertEqual(n.around(THREE, (3, 3), (9, 9)), [tuple(range(12))])

    def test_pairs_stand_in_one_another(self):
        dice = random.Random(163)
        nested = [(THREE, (k, 1)) for k in (1, 2, 3)] + SCENES
        for drawing, body in nested:
            spots = h.Flood(drawing.blocks, body).spots()
            for spot in dice.sample(spots, min(6, len(spots))) + closed_chambers(drawing, body):
                told = n.around(drawing, body, spot)
                for k, piece in enumerate(told):
                    doorstep = n.doorstep(drawing, body, piece[0])
                    inside = [one for one in told if one in n.around(drawing, body, doorstep)]
                    self.assertEqual(inside, told[:k])

    def test_nest(self):
        for drawing, body in SCENES:
            told = h.ask(self, n.nest, ["drawing", "body"], [drawing, body])
            self.assertEqual(list(told), clusters(drawing, body))
            for piece, parent in told.items():
                outside = n.around(drawing, body, n.doorstep(drawing, body, piece[0]))
                self.assertEqual(parent, outside[-1] if outside else None)
                self.assertNotIn(piece, outside)
        self.assertEqual(n.nest(Drawing([]), (1, 1)), {})
        self.assertEqual(n.around(Drawing([]), (1, 1), (5, 5)), [])

    def test_pens_within_one_another(self):
        dice = random.Random(164)
        for _ in range(15):
            thick = dice.randint(1, 2)
            drawing = Drawing(h.pen(-9, -8, 30, 31, thick) + h.pen(0, 0, 12, 12, thick) + h.pen(14, 5, 25, 20, thick))
            self.assertEqual(sorted(map(str, n.nest(drawing, (1, 1)).values()))[-1], "None")
            outer = clusters(drawing, (1, 1))[0]
            self.assertEqual(list(n.nest(drawing, (1, 1)).values()), [None, outer, outer])

    def test_refused(self):
        h.refuse(self, n.around, FRONT + [SPOT], [THREE, (1, 1), (9, 9)])
        h.refuse(self, n.nest, FRONT, [THREE, (1, 1)])
        h.fails(self, NotFree, n.around, THREE, (1, 1), (0, 0))


if __name__ == "__main__":
    unittest.main()
