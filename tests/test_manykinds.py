import random
import unittest

from gapstairs import manykinds as k
from gapstairs.cells import fine_cell, fine_cells
from gapstairs.drawings import Drawing
from gapstairs.errors import BadDrawing, BadSpot, TooMany
from gapstairs.fits import fits
from gapstairs.machines import least_machine, machine, stands
from gapstairs.partings import are_alike
from tests import feeling as f
from tests import helpers as h
from tests.test_machines import DRAWING, SENSES

NAMES = ["drawing", "spot", "senses"]


class ManyKinds(unittest.TestCase):
    def test_all_bodies(self):
        dice = random.Random(921)
        seen = {}
        for drawing, one, _ in h.two_spots(922, 14, 3, 3):
            cells = fine_cells(drawing, [one])
            if len(cells) > 120:
                continue
            senses = dice.choice(f.ALL_SENSES + [f.SENSES] * 20)
            kinds = h.ask(self, k.kinds_of_all, NAMES, [drawing, one, senses])
            least = {least_machine(machine(drawing, (kind[0], one), senses)): kind for kind in kinds}
            self.assertEqual(len(least), len(kinds))
            bodies = [(cell[0][0], cell[1][0]) for cell in cells]
            self.assertEqual(sorted(body for kind in kinds for body in kind), [body for body in bodies if fits(drawing, body, one)])
            self.assertEqual(kinds, sorted(sorted(kind) for kind in kinds))
            # Each body that fits, whatever its size, is of the kind of the least one of its cell.
            for _ in range(25):
                body = (dice.randint(1, 14), dice.randint(1, 14))
                if fits(drawing, body, one):
                    cell = fine_cell(drawing, [one], body)
                    kind = least[least_machine(machine(drawing, (body, one), senses))]
                    self.assertIn((cell[0][0], cell[1][0]), kind)
            if senses == f.SENSES:
                self.assertEqual(k.kinds_of_all(drawing, one), kinds)
            seen[len(kinds)] = True
        self.assertGreater(len(seen), 3)

    def test_bodies_of_one_cell(self):
        dice = random.Random(923)
        for drawing, one, _ in h.two_spots(924, 8, 3, 3):
            for cell in dice.choices(fine_cells(drawing, [one]), k=3):
                small, large = [
                    tuple(dice.randint(least, most or least + 9) for least, most in cell) for _ in range(2)]
                self.assertIs(fits(drawing, small, one), fits(drawing, large, one))
                if fits(drawing, small, one):
                    self.assertTrue(are_alike(drawing, (small, one), (large, one), dice.choice(f.ALL_SENSES)))
                    self.assertEqual(len(stands(drawing, (small, one))), len(stands(drawing, (large, one))))

    def test_by_hand(self):
        self.assertEqual(k.kinds_of_all(Drawing([]), (3, 3)), [[(1, 1)]])
        self.assertEqual(k.kinds_of_all(Drawing([(0, 0, 4, 4)]), (-3, 1)), [[(1, 1)], [(3, 1)]])
        self.assertEqual(k.kinds_of_all(Drawing([(0, 0, 4, 4)]), (1, 1)), [])
        self.assertEqual(k.kinds_of_all(Drawing([(0, 0, 4, 4)]), (-3, 1), ()), [[(1, 1), (3, 1)]])

    def test_the_limit(self):
        most = Drawing([(-10, 1, -7, 6), (-5, -15, -3, -12), (1, -5, 3, -4), (8, -3, 13, -2)])
        over = Drawing([(-13, -1, -9, 0), (-7, 13, -3, 17), (1, -14, 2, -10), (10, 8, 16, 11)])
        spot = (-30, -30)
        self.assertEqual([len(fine_cells(drawing, [spot])) for drawing in (most, over)], [400, 420])
        kinds = k.kinds_of_all(most, spot, ("up", "lost"))
        self.assertEqual(len([body for kind in kinds for body in kind if fits(most, body, spot)]),
                         len([cell for cell in fine_cells(most, [spot]) if fits(most, (cell[0][0], cell[1][0]), spot)]))
        self.assertEqual(h.fails(self, TooMany, k.kinds_of_all, over, spot, ("up",)).most, 400)

    def test_wrong_inputs(self):
        params = [DRAWING, ("spot", BadSpot, h.pair_of_numbers), SENSES]
        h.refuse(self, k.kinds_of_all, params, [f.BLOCK, (-3, 1), ("up",)])
        crowd = Drawing([(7 * n * n, 11 * n * n, 7 * n * n + 1, 11 * n * n + 2) for n in range(12)])
        for error, values in ((BadDrawing, (1, (0, 0))), (BadSpot, (crowd, 1)), (SENSES[1], (crowd, (0, 0), ["up"]))):
            h.fails(self, error, k.kinds_of_all, *values)
        self.assertEqual(h.fails(self, TooMany, k.kinds_of_all, crowd, (0, 0)).most, 400)


if __name__ == "__main__":
    unittest.main()
