import itertools
import random
import unittest

from gapstairs import fits as f
from gapstairs.drawings import Drawing
from gapstairs.errors import BadBody, BadDrawing, BadIndex, BadSpot
from tests import helpers as h

FRONT = [("drawing", BadDrawing, h.drawing), ("body", BadBody, h.body)]
SPOT = ("spot", BadSpot, h.pair_of_numbers)
TWO = Drawing([(0, 0, 2, 3), (2, 0, 5, 9)])


class Fits(unittest.TestCase):
    def test_spots(self):
        for value in h.any_values():
            self.assertIs(f.is_spot(value), h.pair_of_numbers(value), value)

    def test_all_spots_near_the_blocks(self):
        dice = random.Random(71)
        for _ in range(40):
            blocks = sorted(h.random_blocks(dice, dice.randint(0, 6), 5, 4))
            drawing = Drawing(blocks)
            for body in ((1, 1), (2, 1), (3, 5)):
                for spot in itertools.product(range(-9, 9), repeat=2):
                    own = h.covered(body, spot)
                    wanted = [k for k, block in enumerate(blocks) if own & h.cells_of([block])]
                    self.assertEqual(f.barring(drawing, body, spot), wanted)
                    self.assertIs(f.fits(drawing, body, spot), wanted == [])

    def test_touching_fits(self):
        one = Drawing([(0, 0, 2, 3)])
        for spot in ((-4, 0), (2, 2), (0, 3), (1, -5), (-4, -5), (2, 3), (2, -999999999)):
            self.assertIs(f.fits(one, (4, 5), spot), True)
        for spot in ((-3, -4), (1, 2), (-3, 2), (1, -4)):
            self.assertIs(f.fits(one, (4, 5), spot), False)
            self.assertEqual(f.barring(one, (4, 5), spot), [0])
        self.assertEqual(f.barring(TWO, (1, 1), (1, 0)), [0])
        self.assertEqual(f.barring(TWO, (2, 1), (1, 0)), [0, 1])
        self.assertEqual(f.barring(Drawing([]), (2, 1), (1, 0)), [])

    def test_lesser_bodies(self):
        dice = random.Random(72)
        for _ in range(300):
            drawing = Drawing(h.random_blocks(dice, 4, 4, 3))
            a, b = dice.randint(1, 5), dice.randint(1, 5)
            less = (dice.randint(1, a), dice.randint(1, b))
            x, y = dice.randint(-8, 8), dice.randint(-8, 8)
            if f.fits(drawing, (a, b), (x, y)):
                for p, q in itertools.product(range(a - less[0] + 1), range(b - less[1] + 1)):
                    self.assertTrue(f.fits(drawing, less, (x + p, y + q)))

    def test_barred_box(self):
        self.assertEqual(f.barred_box(TWO, (4, 7), 1), (-2, -7, 5, 9))
        self.assertEqual(f.barred_box(TWO, (999999999, 1), 0), (-999999999, -1, 2, 3))

    def test_refused(self):
        h.refuse(self, f.barred_box, FRONT + [("i", BadIndex, h.index_below(2))], [TWO, (2, 1), 1])
        for wrong in (-1, 2, True, None):
            h.fails(self, BadIndex, f.barred_box, TWO, (1, 1), wrong)
        h.refuse(self, f.barring, FRONT + [SPOT], [TWO, (2, 1), (1, 1)])
        h.refuse(self, f.fits, FRONT + [SPOT], [TWO, (2, 1), (1, 1)])
        h.ask(self, f.barring, ["drawing", "body", "spot"], [TWO, (2, 1), (1, 1)])


if __name__ == "__main__":
    unittest.main()
