import itertools
import unittest

from gapstairs import nears as n
from gapstairs.chambers import clusters
from gapstairs.drawings import Drawing
from gapstairs.errors import BadBody, BadDrawing, BadIndex, BadPair
from tests import helpers as h

DRAWING = ("drawing", BadDrawing, h.drawing)
BODY = ("body", BadBody, h.body)
THREE = Drawing([(0, 0, 2, 3), (5, 1, 9, 2), (1, 7, 6, 9)])
I, J = ("i", BadIndex, h.index_below(3)), ("j", BadIndex, h.index_below(3))
SCENES = [(Drawing(blocks), body) for blocks, body in h.small_scenes(111, 30)]


def barred(blocks, body, places):
    """The places, in halves, that lie in all barred boxes of these blocks."""
    return [place for place in places if all(h.is_barred([block], body, *place) for block in blocks)]


class Nears(unittest.TestCase):
    def test_by_hand(self):
        self.assertEqual(THREE.blocks, ((0, 0, 2, 3), (1, 7, 6, 9), (5, 1, 9, 2)))
        self.assertEqual(n.gap(THREE, 0, 1), (-1, 4))
        self.assertEqual(n.gap(THREE, 1, 0), (-1, 4))
        self.assertEqual(n.gap(THREE, 0, 2), (3, -2))
        self.assertEqual(n.gap(THREE, 1, 2), (-1, 5))
        self.assertEqual(n.near_from(THREE, 0, 1), (1, 5))
        self.assertEqual(n.near_from(THREE, 2, 0), (4, 1))
        self.assertEqual(n.gap(Drawing([(0, 0, 9, 9), (2, 3, 4, 5)]), 0, 1), (-4, -5))
        self.assertEqual(n.near_pairs(THREE, (4, 5)), [(0, 1), (0, 2)])
        touching = Drawing([(0, 0, 1, 1), (1, 1, 2, 2)])
        self.assertEqual(n.gap(touching, 0, 1), (0, 0))
        self.assertIs(n.near(touching, (1, 1), 0, 1), True)
        far = Drawing([(-999999999, 0, -999999998, 1), (999999998, 0, 999999999, 1)])
        self.assertEqual(n.gap(far, 0, 1), (1999999996, -1))

    def test_near_boxes_share_a_place(self):
        for drawing, body in SCENES:
            many = range(len(drawing.blocks))
            pairs = []
            for i, j in itertools.permutations(many, 2):
                left = min(b[0] for b in drawing.blocks) - body[0]
                low = min(b[1] for b in drawing.blocks) - body[1]
                right = max(b[2] for b in drawing.blocks)
                high = max(b[3] for b in drawing.blocks)
                two = [drawing.blocks[i], drawing.blocks[j]]
                xs = [x for x in range(2 * left, 2 * right) if any(barred(two, body, [(x, y)]) for y in range(2 * low, 2 * high))]
                told = n.near(drawing, body, i, j)
                self.assertIs(told, xs != [])
                if told and i < j:
                    pairs.append((i, j))
            self.assertTrue(h.same(h.ask(self, n.near_pairs, ["drawing", "body"], [drawing, body]), pairs))
            groups = [{k} for k in many]
            for i, j in pairs:
                joined = [g for g in groups if i in g or j in g]
                groups = [g for g in groups if g not in joined] + [set().union(*joined)]
            self.assertEqual(clusters(drawing, body), sorted(tuple(sorted(g)) for g in groups))

    def test_near_from_is_the_least(self):
        for drawing, _ in SCENES:
            for i, j in itertools.permutations(range(len(drawing.blocks)), 2):
                least = n.near_from(drawing, i, j)
                for body in h.bodies_to(6):
                    self.assertIs(n.near(drawing, body, i, j), body[0] >= least[0] and body[1] >= least[1])

    def test_refused(self):
        h.refuse(self, n.gap, [DRAWING, I, J], [THREE, 2, 0])
        h.refuse(self, n.near_from, [DRAWING, I, J], [THREE, 2, 0])
        h.refuse(self, n.near, [DRAWING, BODY, I, J], [THREE, (9, 1), 2, 0])
        h.refuse(self, n.near_pairs, [DRAWING, BODY], [THREE, (9, 1)])
        for front, function in (([THREE], n.gap), ([THREE], n.near_from), ([THREE, (1, 1)], n.near)):
            h.fails(self, BadPair, function, *front, 1, 1)
            h.fails(self, BadIndex, function, *front, 3, 3)
            h.fails(self, BadIndex, function, *front, 1, True)
            h.fails(self, BadIndex, function, *front, -1, 1)


if __name__ == "__main__":
    unittest.main()
