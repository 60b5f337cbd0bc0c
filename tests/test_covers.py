import itertools
import random
import unittest

from gapstairs import covers as c
from gapstairs.drawings import Drawing
from gapstairs.errors import BadBody, BadCell, BadDrawing, BadGround, BadSpot
from gapstairs.fits import fits
from gapstairs.grounds import Ground, ground_of, same_ground
from gapstairs.stairs import notches
from tests import helpers as h
from tests.test_grounds import bands_of, random_cells

DRAWING = ("drawing", BadDrawing, h.drawing)
CELL = ("cell", BadCell, h.pair_of_numbers)
YARD = Drawing(h.pen(0, 0, 7, 6) + [(3, 1, 4, 2)])
INSIDE = (1, 2)
MOST = 8


def can_cover(cells, body, cell):
    return any(
        not h.covered(body, (x, y)) & cells
        for x in range(cell[0] - body[0] + 1, cell[0] + 1)
        for y in range(cell[1] - body[1] + 1, cell[1] + 1)
    )


def scenes(seed, rounds):
    dice = random.Random(seed)
    found = [[], [(0, 0, 2, 2)], h.pen(0, 0, 4, 4), h.pen(-1, -1, 4, 5) + [(1, 1, 2, 2)]]
    return found + [h.random_blocks(dice, dice.randint(1, 5), 3, 3) for _ in range(rounds)]


class FitsGround(unittest.TestCase):
    def test_heart_fits_in_drawing_and_ground(self):
        for blocks in scenes(61, 20):
            ground = ground_of(Drawing(blocks))
            for body in ((1, 1), (2, 1), (3, 4)):
                for spot in itertools.product(range(-7, 8), repeat=2):
                    wanted = not h.covered(body, spot) & h.cells_of(blocks)
                    self.assertIs(c.fits_ground(ground, body, spot), wanted)
                    self.assertIs(fits(Drawing(blocks), body, spot), wanted)

    def test_grounds_tell_all(self):
        one = Drawing([(0, 0, 2, 2), (2, 0, 4, 2)])
        other = Drawing([(0, 0, 4, 1), (0, 1, 4, 2)])
        self.assertTrue(same_ground(one, other))
        for cell in itertools.product(range(-2, 6), repeat=2):
            self.assertEqual(c.cover_stairs(one, cell), c.cover_stairs(other, cell))

    def test_refused(self):
        params = [("ground", BadGround, h.ground), ("body", BadBody, h.body), ("spot", BadSpot, h.pair_of_numbers)]
        h.refuse(self, c.fits_ground, params, [ground_of(YARD), (2, 1), (1, 1)])


class CoverStairs(unittest.TestCase):
    def test_cover_stairs(self):
        for blocks in scenes(62, 12):
            cells = h.cells_of(blocks)
            for cell in itertools.product(range(-5, 6), repeat=2):
                told = c.cover_stairs(Drawing(blocks), cell)
                self.assertTrue(h.stairs(told))
                self.assertIs(told == (), cell in cells)
                for body in h.bodies_to(MOST):
                    self.assertIs(h.stairs_has(told, body), can_cover(cells, body, cell), (blocks, cell, body))

    def test_edges(self):
        self.assertEqual(c.cover_stairs(Drawing([]), (5, -999999999)), ((None, None),))
        self.assertEqual(c.cover_stairs(YARD, INSIDE), ((2, 4), (5, 3)))
        self.assertEqual(c.cover_stairs(YARD, (-1, -1)), ((None, None),))
        self.assertEqual(c.cover_stairs(YARD, (3, 1)), ())
        self.assertEqual(c.cover_stairs(Drawing([(-9, -9, -1, 9), (1, -9, 9, 9)]), (0, 0)), ((2, None),))

    def test_refused(self):
        for function in (c.cover_stairs, c.cover_boxes, c.cover_bars):
            h.refuse(self, function, [DRAWING, CELL], [YARD, INSIDE])
        for function in (c.are_cover_boxes, c.are_cover_bars):
            h.refuse(self, function, [DRAWING, CELL, ("thing", None, None)], [YARD, INSIDE, {}])
        more = [("stairs", None, None), ("boxes", None, None), ("bars", None, None)]
        h.refuse(self, c.are_cover_papers, [DRAWING, CELL] + more, [YARD, INSIDE, 1, 2, 3])


def is_empty_box(cells, cell, corner, box, reach=30):
    """An endless end counts as one far away."""
    if type(box) is not tuple or len(box) != 4 or not all(item is None or h.number(item) for item in box):
        return False
    left, low = [-reach if item is None else item for item in box[:2]]
    right, high = [reach if item is None else item for item in box[2:]]
    wide = None if box[0] is None or box[2] is None else right - left
    tall = None if box[1] is None or box[3] is None else high - low
    if not (left <= cell[0] < right and low <= cell[1] < high) or corner != (wide, tall):
        return False
    return not any(left <= x < right and low <= y < high for x, y in cells)


class CoverBoxes(unittest.TestCase):
    def test_boxes(self):
        for blocks in scenes(63, 15):
            drawing, cells = Drawing(blocks), h.cells_of(blocks)
            for cell in itertools.product(range(-4, 5, 2), repeat=2):
                told = h.ask(self, c.cover_boxes, ["drawing", "cell"], [drawing, cell])
                self.assertEqual(list(told), list(c.cover_stairs(drawing, cell)))
                for corner, box in told.items():
                    self.assertTrue(is_empty_box(cells, cell, corner, box), (blocks, cell, corner, box))
                self.assertIs(c.are_cover_boxes(drawing, cell, told), True)
                self.assertIs(c.are_cover_boxes(drawing, cell, dict(reversed(list(told.items())))), True)

    def test_all_boxes_are_judged(self):
        good = c.cover_boxes(YARD, INSIDE)
        cells = h.cells_of(YARD.blocks)
        for corner in good:
            for box in itertools.product((-1, 0, 1, 2, None), (0, 1, 2, None), (2, 3, 6, 7, None), (3, 5, 6, None)):
                wanted = is_empty_box(cells, INSIDE, corner, box)
                self.assertIs(c.are_cover_boxes(YARD, INSIDE, {**good, corner: box}), wanted)

    def test_endless(self):
        one = Drawing([(0, 0, 2, 2)])
        good = c.cover_boxes(one, (0, 3))
        self.assertEqual(list(good), [(None, None)])
        for box in ((None, 2, None, None), (None, 3, 1, None), (0, 2, None, None)):
            self.assertIs(c.are_cover_boxes(one, (0, 3), {(None, None): box}), True)
        h.never(self, lambda box: c.are_cover_boxes(one, (0, 3), {(None, None): box}), [
            (None, 1, None, None), (None, 4, None, None), (1, 2, None, None), (None, 2, 0, None), (None, 2, None, 9),
            [None, 2, None, None], (None, 2, None), (None, True, None, None), None, (False, 2, None, None),
        ])

        # The last row or column that a box has is the one ahead of its end.
        for cell, ends in (((0, -1), [(None, None, None, 0), (None, None, None, -1)]),
                           ((-1, 0), [(None, None, 0, None), (None, None, -1, None)]),
                           ((0, 2), [(None, 2, None, None), (None, 3, None, None)]),
                           ((2, 0), [(2, None, None, None), (3, None, None, None)])):
            told = [c.are_cover_boxes(one, cell, {(None, None): box}) for box in ends]
            self.assertEqual(told, [True, False])

    def test_others_are_none(self):
        good = c.cover_boxes(YARD, INSIDE)
        self.assertEqual(good, {(2, 4): (1, 1, 3, 5), (5, 3): (1, 2, 6, 5)})
        h.never(self, lambda thing: c.are_cover_boxes(YARD, INSIDE, thing), [
            {}, list(good), {**good, (1, 1): (1, 1, 2, 2)}, {(2, 4): good[(2, 4)]}, None,
        ])
        h.judge_any(self, c.are_cover_boxes, YARD, INSIDE)
        h.judge_any(self, c.are_cover_boxes, YARD, (3, 1))
        self.assertIs(c.are_cover_boxes(YARD, (3, 1), {}), True)


def is_bar(blocks, cell, body, lot):
    return not can_cover(h.cells_of([blocks[k] for k in lot]), body, cell)


class CoverBars(unittest.TestCase):
    def test_bars(self):
        for blocks in scenes(64, 12):
            blocks = sorted(blocks)
            drawing = Drawing(blocks)
            lots = [lot for size in range(len(blocks) + 1) for lot in itertools.combinations(range(len(blocks)), size)]
            for cell in itertools.product(range(-3, 5, 2), repeat=2):
                told = h.ask(self, c.cover_bars, ["drawing", "cell"], [drawing, cell])
                self.assertEqual(list(told), notches(c.cover_stairs(drawing, cell)))
                for notch, lot in told.items():
                    self.assertTrue(is_bar(blocks, cell, notch, lot))
                    for k in lot:
                        self.assertFalse(is_bar(blocks, cell, notch, tuple(i for i in lot if i != k)))
                    for other in lots:
                        wanted = is_bar(blocks, cell, notch, other)
                        self.assertIs(c.are_cover_bars(drawing, cell, {**told, notch: other}), wanted)

    def test_others_are_none(self):
        good = c.cover_bars(YARD, INSIDE)
        self.assertEqual(list(good), [(1, 5), (3, 4), (6, 1)])
        self.assertIs(c.are_cover_bars(YARD, INSIDE, {notch: (0, 1, 2, 3, 4) for notch in good}), True)
        first = good[(1, 5)]
        h.never(self, lambda thing: c.are_cover_bars(YARD, INSIDE, thing), [
            {}, {**good, (1, 5): list(first)}, {**good, (1, 5): first[::-1]}, {**good, (1, 5): (0, 1, 2, 3, 4, 5)},
            {**good, (1, 5): (False, True, 2, 3, 4)}, {**good, (1, 5): ()}, {**good, (9, 9): (0, 1, 2, 3, 4)}, list(good),
        ])
        h.judge_any(self, c.are_cover_bars, YARD, INSIDE)
        self.assertEqual(c.cover_bars(YARD, (3, 1)), {(1, 1): (3,)})
        self.assertEqual(YARD.blocks[3], (3, 1, 4, 2))


class Papers(unittest.TestCase):
    def test_heart(self):
        for blocks in scenes(65, 8):
            drawing = Drawing(blocks)
            for cell in ((0, 0), (-1, 3), (2, 1)):
                true = c.cover_stairs(drawing, cell)
                boxes, bars = c.cover_boxes(drawing, cell), c.cover_bars(drawing, cell)
                self.assertIs(c.are_cover_papers(drawing, cell, true, boxes, bars), True)
                every = tuple(range(len(blocks)))
                for steps in h.all_stairs(4):
                    if steps != true:
                        more = {corner: boxes.get(corner, (None, None, None, None)) for corner in steps}
                        most = {notch: every for notch in notches(steps)}
                        self.assertIs(c.are_cover_papers(drawing, cell, steps, more, most), False)

    def test_any_values(self):
        good = [c.cover_stairs(YARD, INSIDE), c.cover_boxes(YARD, INSIDE), c.cover_bars(YARD, INSIDE)]
        for k in range(3):
            for value in h.any_values():
                values = list(good)
                values[k] = value
                self.assertIs(c.are_cover_papers(YARD, INSIDE, *values), False)
        self.assertIs(c.are_cover_papers(YARD, INSIDE, stairs=good[0], boxes=good[1], bars=good[2]), True)


class Filled(unittest.TestCase):
    def test_filled(self):
        dice = random.Random(66)
        for _ in range(60):
            cells = random_cells(dice, 4)
            ground = Ground(bands_of(cells))
            for body in ((1, 1), (2, 1), (1, 3), (2, 2), (4, 3)):
                told = c.filled(ground, body)
                wanted = {
                    (x, y) for x in range(-7, 10) for y in range(-7, 10) if not can_cover(cells, body, (x, y))
                }
                self.assertEqual(told.bands, bands_of(wanted))
                large = (body[0] + dice.randint(0, 2), body[1] + dice.randint(0, 2))
                self.assertEqual(c.filled(told, large), c.filled(ground, large))

    def test_heart_cover_stairs(self):
        for blocks in scenes(67, 10):
            drawing = Drawing(blocks)
            for body in ((1, 1), (2, 2), (3, 1)):
                told = c.filled(ground_of(drawing), body)
                for cell in itertools.product(range(-6, 7), repeat=2):
                    self.assertIs(cell in told, not h.stairs_has(c.cover_stairs(drawing, cell), body))

    def test_edges(self):
        self.assertEqual(c.filled(Ground(()), (3, 999999999)), Ground(()))
        big = Ground(((-999999999, 0, ((-5, -1), (1, 5))),))
        self.assertEqual(c.filled(big, (2, 9)), big)
        self.assertEqual(c.filled(big, (3, 9)), Ground(((-999999999, 0, ((-5, 5),)),)))
        far = Ground(((0, 4, ((0, 1), (4, 5))), (4, 6, ((0, 5),))))
        self.assertEqual(c.filled(far, (4, 1)), Ground(((0, 6, ((0, 5),)),)))
        self.assertEqual(c.filled(far, (3, 2)), far)
        h.refuse(self, c.filled, [("ground", BadGround, h.ground), ("body", BadBody, h.body)], [far, (3, 5)])


if __name__ == "__main__":
    unittest.main()
