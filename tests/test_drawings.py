import itertools
import random
import unittest

from gapstairs import drawings as d
from gapstairs.drawings import Drawing
from gapstairs.errors import BadBlock, BadBlocks, BadBy, BadDrawing, BadLot, BadTimes, TooMany
from tests import helpers as h

TWO = Drawing([(0, 0, 2, 3), (-5, 1, 9, 2)])
TWELVE = Drawing([(k, -k, k + 1, k) for k in range(1, 13)])
FAR = Drawing([(-999999999, -999999999, 999999999, 999999999), (-1, -2, 0, 5)])
DRAWING = ("drawing", BadDrawing, h.drawing)


def blocks_list(thing):
    return h.list_of(h.block)(thing) and len(thing) <= 12 and len(set(thing)) == len(thing)


class Blocks(unittest.TestCase):
    def test_any_value(self):
        for value in h.any_values():
            self.assertIs(d.is_block(value), h.block(value), value)
        for block in itertools.product((0, 1, 2), repeat=4):
            self.assertIs(d.is_block(block), block[0] < block[2] and block[1] < block[3])
        h.never(self, d.is_block, [(False, 0, 1, 1), (0, 0, True, 1), [0, 0, 1, 1], (0, 0, 1, "2"), (0, 0, None, 1)])


class Drawings(unittest.TestCase):
    def test_blocks_ascend(self):
        given = [(0, 0, 2, 3), (-5, 1, 9, 2), (0, -4, 9, 9)]
        for order in itertools.permutations(given):
            for kind in (list, tuple):
                made = Drawing(kind(order))
                self.assertTrue(h.same(made.blocks, ((-5, 1, 9, 2), (0, -4, 9, 9), (0, 0, 2, 3))))
                self.assertEqual(len(made), 3)
        self.assertEqual(Drawing(blocks=given).blocks, made.blocks)
        made = Drawing(given)
        given.clear()
        self.assertEqual(len(made.blocks), 3)

    def test_none_and_twelve(self):
        self.assertEqual(Drawing([]).blocks, ())
        self.assertEqual(len(Drawing(())), 0)
        self.assertEqual(len(TWELVE), 12)
        h.fails(self, BadBlocks, Drawing, [(k, 0, k + 1, 1) for k in range(13)])

    def test_refused(self):
        for value in h.any_values():
            if not blocks_list(value):
                h.fails(self, BadBlocks, Drawing, value)
        for wrong in ([(0, 0, 1, 1), (0, 0, 1, 1)], [(0, 0, 1, 1), None], [(0, 0, 1, True)], {(0, 0, 1, 1): 1}):
            h.fails(self, BadBlocks, Drawing, wrong)

    def test_equal_and_in(self):
        self.assertTrue(TWO == Drawing(list(TWO.blocks)[::-1]))
        self.assertTrue(TWO != TWELVE)
        for value in h.any_values():
            self.assertIs(TWELVE == value, False)
            self.assertIs(value in Drawing([(0, 0, 1, 1)]), h.same(value, (0, 0, 1, 1)))
        self.assertIs((-5, 1, 9, 2) in TWO, True)
        self.assertIs((0, 0, True, True) in Drawing([(0, 0, 1, 1)]), False)
        self.assertIs([0, 0, 2, 3] in TWO, False)


class Changing(unittest.TestCase):
    def test_put(self):
        told = d.put(TWO, (0, 0, 2, 2))
        self.assertEqual(told.blocks, ((-5, 1, 9, 2), (0, 0, 2, 2), (0, 0, 2, 3)))
        self.assertEqual(len(TWO), 2)
        good = [TWO, (7, 7, 8, 8)]
        h.refuse(self, d.put, [DRAWING, ("block", BadBlock, lambda b: h.block(b) and b not in TWO.blocks)], good)
        h.fails(self, BadBlock, d.put, TWO, (0, 0, 2, 3))
        self.assertEqual(h.fails(self, TooMany, d.put, TWELVE, (0, 0, 2, 3)).most, 12)
        h.fails(self, BadBlock, d.put, TWELVE, TWELVE.blocks[5])
        h.fails(self, BadBlock, d.put, TWELVE, None)
        self.assertEqual(len(d.put(d.taken(TWELVE, (4,)), (0, 0, 2, 3))), 12)

    def test_taken(self):
        for many in range(4):
            blocks = h.random_blocks(random.Random(many), many)
            drawing = Drawing(blocks)
            for size in range(many + 1):
                for lot in itertools.combinations(range(many), size):
                    wanted = [b for k, b in enumerate(sorted(blocks)) if k not in lot]
                    self.assertEqual(list(d.taken(drawing, lot).blocks), wanted)
        h.refuse(self, d.taken, [DRAWING, ("lot", BadLot, h.lot_below(2))], [TWO, (0, 1)])
        for wrong in ((1, 0), (0, 0), [0], (2,), (-1,), (True,), 0, None):
            h.fails(self, BadLot, d.taken, TWO, wrong)

    def test_shifted_scaled_flipped(self):
        self.assertEqual(d.shifted(TWO, (10, -1)).blocks, ((5, 0, 19, 1), (10, -1, 12, 2)))
        self.assertEqual(d.scaled(TWO, 3).blocks, ((-15, 3, 27, 6), (0, 0, 6, 9)))
        self.assertEqual(d.flipped_drawing(TWO).blocks, ((0, 0, 3, 2), (1, -5, 2, 9)))
        self.assertEqual(d.shifted(FAR, (-999999999, 999999999)).blocks[0], (-1999999998, 0, 0, 1999999998))
        for function, more in ((d.shifted, ((0, 0),)), (d.scaled, (1,))):
            self.assertEqual(function(TWELVE, *more), TWELVE)
        self.assertEqual(d.flipped_drawing(d.flipped_drawing(TWELVE)), TWELVE)
        h.refuse(self, d.shifted, [DRAWING, ("by", BadBy, h.pair_of_numbers)], [TWO, (1, -2)])
        h.refuse(self, d.scaled, [DRAWING, ("times", BadTimes, h.size)], [TWO, 4])
        h.refuse(self, d.flipped_drawing, [DRAWING], [TWO])


if __name__ == "__main__":
    unittest.main()
