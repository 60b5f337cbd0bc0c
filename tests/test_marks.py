import itertools
import unittest
from fractions import Fraction

from gapstairs import marks as m
from gapstairs.drawings import Drawing
from gapstairs.errors import BadBody, BadDrawing, BadIndex, BadPair, BadSpot, NotFree, NotNear
from gapstairs.nears import near_pairs
from tests import helpers as h

FRONT = [("drawing", BadDrawing, h.drawing), ("body", BadBody, h.body)]
I, J = ("i", BadIndex, h.index_below(3)), ("j", BadIndex, h.index_below(3))
SPOT = ("spot", BadSpot, h.pair_of_numbers)
THREE = Drawing([(0, 0, 2, 3), (5, 1, 9, 2), (1, 7, 6, 9)])
SCENES = [(Drawing(blocks), body) for blocks, body in h.small_scenes(121, 30)]


def box(block, body):
    return (block[0] - body[0], block[1] - body[1], block[2], block[3])


def crosses(spot, one, other):
    """Whether the line from one to other (twice the places) crosses that from the spot to the right.

    A line that ends just at the level counts as ending below it."""
    x, y = 2 * spot[0], 2 * spot[1]
    if (one[1] > y) == (other[1] > y):
        return False
    at = one[0] + Fraction((other[0] - one[0]) * (y - one[1]), other[1] - one[1])
    return at > x


class Marks(unittest.TestCase):
    def test_hearts_and_meetings(self):
        for drawing, body in SCENES:
            boxes = [box(block, body) for block in drawing.blocks]
            for i, (left, low, right, high) in enumerate(boxes):
                self.assertEqual(m.heart(drawing, body, i), (left + right, low + high))
            for i, j in near_pairs(drawing, body):
                left, low = max(boxes[i][0], boxes[j][0]), max(boxes[i][1], boxes[j][1])
                right, high = min(boxes[i][2], boxes[j][2]), min(boxes[i][3], boxes[j][3])
                self.assertTrue(left < right and low < high)
                self.assertEqual(m.meeting(drawing, body, i, j), (left + right, low + high))
                self.assertEqual(m.meeting(drawing, body, j, i), (left + right, low + high))

    def test_by_hand(self):
        self.assertEqual(m.heart(THREE, (2, 3), 0), (0, 0))
        self.assertEqual(m.heart(THREE, (4, 1), 2), (10, 2))
        self.assertEqual(m.meeting(THREE, (4, 1), 0, 2), (3, 2))
        self.assertEqual(m.meeting(THREE, (4, 1), 2, 0), (3, 2))

    def test_mark_is_a_crossing(self):
        told = set()
        for drawing, body in SCENES:
            flood = h.Flood(drawing.blocks, body)
            for i, j in near_pairs(drawing, body):
                one, middle, other = m.heart(drawing, body, i), m.meeting(drawing, body, i, j), m.heart(drawing, body, j)
                for spot in flood.spots()[::3]:
                    wanted = (crosses(spot, one, middle) + crosses(spot, middle, other)) % 2
                    for pair in ((i, j), (j, i)):
                        mark = m.mark(drawing, body, spot, *pair)
                        self.assertTrue(h.same(mark, wanted), (drawing.blocks, body, spot, pair))
                    told.add(mark)
        self.assertEqual(told, {0, 1})

    def test_refused(self):
        h.refuse(self, m.heart, FRONT + [("i", BadIndex, h.index_below(3))], [THREE, (4, 1), 2])
        h.refuse(self, m.meeting, FRONT + [I, J], [THREE, (4, 1), 2, 0])
        h.refuse(self, m.mark, FRONT + [SPOT, I, J], [THREE, (4, 1), (9, 9), 2, 0])
        h.fails(self, BadPair, m.meeting, THREE, (4, 1), 2, 2)
        h.fails(self, BadPair, m.mark, THREE, (4, 1), (0, 0), 2, 2)
        h.fails(self, BadIndex, m.mark, THREE, (4, 1), (0, 0), 3, 3)
        h.fails(self, NotNear, m.meeting, THREE, (3, 1), 2, 0)
        h.fails(self, NotNear, m.mark, THREE, (3, 1), (0, 0), 2, 0)
        h.fails(self, NotFree, m.mark, THREE, (4, 1), (0, 0), 2, 0)
        h.fails(self, BadSpot, m.mark, THREE, (4, 1), None, 7, 0)


if __name__ == "__main__":
    unittest.main()
