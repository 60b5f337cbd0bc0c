import itertools
import random
import unittest

from gapstairs import grounds as g
from gapstairs.drawings import Drawing, taken
from gapstairs.errors import BadBands, BadDrawing, BadGround, TooMany
from gapstairs.grounds import Ground
from tests import helpers as h

DRAWING = ("drawing", BadDrawing, h.drawing)
GROUND = ("ground", BadGround, h.ground)
SHAPE = Ground(((-2, 0, ((0, 3), (5, 6))), (0, 1, ((0, 3),)), (4, 5, ((0, 3),))))


def bands_of(cells):
    """The bands of a set of cells, row by row."""
    rows = []
    for y in sorted({y for _, y in cells}):
        xs = sorted(x for x, row in cells if row == y)
        spans = []
        for x in xs:
            if spans and spans[-1][1] == x:
                spans[-1] = (spans[-1][0], x + 1)
            else:
                spans.append((x, x + 1))
        if rows and rows[-1][1] == y and rows[-1][2] == tuple(spans):
            rows[-1] = (rows[-1][0], y + 1, tuple(spans))
        else:
            rows.append((y, y + 1, tuple(spans)))
    return tuple(rows)


def random_cells(dice, side=4):
    return {(x, y) for x in range(-1, side) for y in range(-2, side) if dice.random() < 0.5}


class Grounds(unittest.TestCase):
    def test_bands(self):
        dice = random.Random(51)
        for _ in range(150):
            cells = random_cells(dice)
            made = Ground(bands_of(cells))
            self.assertEqual(made.bands, bands_of(cells))
            for x in range(-3, 6):
                for y in range(-4, 6):
                    self.assertIs((x, y) in made, (x, y) in cells)
        self.assertEqual(Ground(bands=()).bands, ())

    def test_signs(self):
        dice = random.Random(52)
        for _ in range(300):
            one, other = random_cells(dice, dice.randint(0, 4)), random_cells(dice)
            a, b = Ground(bands_of(one)), Ground(bands_of(other))
            self.assertEqual((a | b).bands, bands_of(one | other))
            self.assertEqual((a & b).bands, bands_of(one & other))
            self.assertEqual((a - b).bands, bands_of(one - other))
            self.assertIs(a == b, one == other)
            self.assertIs(a != b, one != other)
        self.assertEqual(a.bands, bands_of(one))

    def test_refused(self):
        good = ((0, 1, ((0, 1),)), (1, 3, ((0, 1), (2, 5))), (4, 5, ((0, 1), (2, 5))))
        self.assertEqual(Ground(good).bands, good)
        for wrong in (
            list(good), (list(good[0]),), ((0, 1, [(0, 1)]),), ((0, 1, ()),), ((0, 0, ((0, 1),)),), ((1, 0, ((0, 1),)),),
            ((0, 1, ((0, 0),)),), ((0, 1, ((1, 0),)),), ((0, 1, ((0, 1), (1, 2))),), ((0, 1, ((0, 2), (1, 3))),),
            ((0, 1, ((0, 1), (5, 5))),), ((0, 1, ((0, 1), (3, True))),), ((0, 1, ((0, 1), None)),), ((0, 1, ((4, 5), (0, 1))),), ((0, 1, ((0, 1),)), (1, 2, ((0, 1),))), ((0, 2, ((0, 1),)), (1, 3, ((0, 2),))),
            ((4, 5, ((0, 1),)), (0, 1, ((0, 2),))), ((False, 1, ((0, 1),)),), ((0, True, ((0, 1),)),),
            ((0, 1, ((0, True),)),), ((0, 1, ([0, 1],)),), ((0, 1, ((0, 1, 2),)),), ((0, 1),), ((0, 1, ((0, 1),), 0),),
            ((0, None, ((0, 1),)),), None,
        ):
            h.fails(self, BadBands, Ground, wrong)
        for value in h.any_values():
            if value != () and not h.same(value, ((0, 1, ((0, 1),)),)):
                h.fails(self, BadBands, Ground, value)

    def test_equal_to_no_other_kind(self):
        for value in h.any_values():
            self.assertIs(SHAPE == value, False)
            self.assertIs(value in SHAPE, h.same(value, (0, 0)) or h.same(value, (1, 0)) or h.same(value, (1, -1)))
            self.assertIs(g.is_cell(value), h.pair_of_numbers(value))
        self.assertIs((False, 0) in SHAPE, False)
        self.assertIs([0, 0] in SHAPE, False)


class FromDrawings(unittest.TestCase):
    def scenes(self):
        return [blocks for blocks, _ in h.small_scenes(53, 40, 6)]

    def test_ground_of(self):
        for blocks in self.scenes():
            drawing = Drawing(blocks)
            self.assertEqual(g.ground_of(drawing).bands, bands_of(h.cells_of(blocks)))
        big = Drawing([(-999999999, -5, 999999999, 5), (-3, -999999999, 3, 999999999)])
        self.assertEqual(g.ground_of(big).bands, (
            (-999999999, -5, ((-3, 3),)), (-5, 5, ((-999999999, 999999999),)), (5, 999999999, ((-3, 3),)),
        ))
        h.refuse(self, g.ground_of, [DRAWING], [big])

    def test_ground_blocks_and_back(self):
        self.assertEqual(
            h.ask(self, g.ground_blocks, ["ground"], [SHAPE]),
            [(0, -2, 3, 0), (0, 0, 3, 1), (0, 4, 3, 5), (5, -2, 6, 0)],
        )
        for blocks in self.scenes():
            ground = g.ground_of(Drawing(blocks))
            pieces = [(left, low, right, high) for low, high, spans in ground.bands for left, right in spans]
            self.assertEqual(g.ground_blocks(ground), sorted(pieces))
            if len(pieces) > 12:
                self.assertEqual(h.fails(self, TooMany, g.drawing_of, ground).most, 12)
            else:
                self.assertEqual(g.drawing_of(ground), Drawing(pieces))
                self.assertEqual(g.ground_of(g.drawing_of(ground)), ground)
        self.assertEqual(g.drawing_of(Ground(())), Drawing([]))
        many = Ground(((0, 1, tuple((2 * k, 2 * k + 1) for k in range(13))),))
        self.assertEqual(h.fails(self, TooMany, g.drawing_of, many).most, 12)
        self.assertEqual(len(g.drawing_of(Ground(((0, 1, many.bands[0][2][:12]),)))), 12)
        h.refuse(self, g.ground_blocks, [GROUND], [SHAPE])
        h.refuse(self, g.drawing_of, [GROUND], [SHAPE])

    def test_same_ground(self):
        one = Drawing([(0, 0, 2, 2), (2, 0, 4, 2)])
        other = Drawing([(0, 0, 4, 1), (0, 1, 4, 2), (1, 1, 3, 2)])
        self.assertIs(g.same_ground(one, other), True)
        self.assertIs(g.same_ground(one, Drawing([(0, 0, 4, 3)])), False)
        self.assertIs(g.same_ground(Drawing([]), Drawing([])), True)
        h.refuse(self, g.same_ground, [DRAWING, ("second", BadDrawing, h.drawing)], [one, other])

    def test_hidden_and_kept(self):
        dice = random.Random(54)
        scenes = self.scenes() + [h.random_blocks(dice, 6, 2, 4) for _ in range(30)]
        for blocks in scenes:
            blocks = sorted(blocks)
            cells = h.cells_of(blocks)
            many = len(blocks)
            wanted = [k for k in range(many) if h.cells_of(blocks[:k] + blocks[k + 1:]) == cells]
            self.assertEqual(h.ask(self, g.hidden, ["drawing"], [Drawing(blocks)]), wanted)
            whole = [
                lot for size in range(many + 1) for lot in itertools.combinations(range(many), size)
                if h.cells_of([blocks[k] for k in lot]) == cells
            ]
            told = h.ask(self, g.kept, ["drawing"], [Drawing(blocks)])
            self.assertTrue(h.same(told, whole[0]))
            self.assertTrue(set(range(many)) - set(wanted) <= set(told))
        self.assertEqual(g.kept(Drawing([])), ())

    def test_kept_of_twelve(self):
        blocks = [(k, 0, k + 2, 1) for k in range(12)]
        self.assertEqual(g.hidden(Drawing(blocks)), list(range(1, 11)))
        self.assertEqual(g.kept(Drawing(blocks)), (0, 1, 3, 5, 7, 9, 11))
        self.assertEqual(taken(Drawing(blocks), (2, 4)).blocks[2], (3, 0, 5, 1))
        h.refuse(self, g.hidden, [DRAWING], [Drawing(blocks)])
        h.refuse(self, g.kept, [DRAWING], [Drawing(blocks)])


if __name__ == "__main__":
    unittest.main()
