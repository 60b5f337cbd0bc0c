import random
import unittest

from gapstairs import slides as s
from gapstairs.chambers import same_chamber
from gapstairs.drawings import Drawing, scaled
from gapstairs.errors import BadBy, BadDrawing, BadIndex, BadSide, BadSpot
from gapstairs.passages import stairs_between
from gapstairs.seasons import are_season_papers, stairs_through, through_table, tide_table
from gapstairs.stairs import inside, joined
from tests import helpers as h
from tests.test_forms import ALL
from tests.test_seasons import lives

NAMES = ["drawing", "i", "side", "by", "one", "other"]
STEP = {"left": (-1, 0), "down": (0, -1), "right": (1, 0), "up": (0, 1)}
BACK = {"left": "right", "down": "up", "right": "left", "up": "down"}


def moved(block, side, by):
    dx, dy = STEP[side]
    return (block[0] + by * dx, block[1] + by * dy, block[2] + by * dx, block[3] + by * dy)


def moment(drawing, i, side, quarters):
    """The drawing so many quarters of a unit later, all numbers times 4."""
    blocks = [tuple(4 * item for item in block) for block in drawing.blocks]
    blocks[i] = moved(blocks[i], side, quarters)
    return Drawing(sorted(set(blocks)))


def four(pair):
    return (4 * pair[0], 4 * pair[1])


def scenes(seed, rounds, most=4):
    dice = random.Random(seed)
    pen = Drawing(h.pen(0, 0, 7, 7)[:3] + [(6, 1, 7, 6)])
    made = [(pen, pen.blocks.index((6, 1, 7, 6)), "up", 3, (2, 2), (9, 2)), (pen, pen.blocks.index((6, 1, 7, 6)), "left", 4, (1, 1), (9, 2)),
            (Drawing([(0, 0, 1, 3), (2, 0, 3, 3)]), 0, "right", 4, (-3, 1), (5, 1)), (Drawing([(0, 0, 2, 2)]), 0, "up", 2, (-1, 0), (2, 0)),
            (Drawing([(0, 0, 2, 2)]), 0, "left", 3, (-3, 0), (-3, 0)), (Drawing([(0, 0, 2, 2)]), 0, "right", 2, (2, 0), (0, 0))]
    for k in range(rounds + len(made)):
        if k < len(made):
            yield made[k]
            continue
        blocks = h.random_blocks(dice, dice.randint(1, 4), 4, 4) if dice.random() < 0.4 else h.leaky(dice)
        drawing = Drawing(blocks)
        i, side, by = dice.randrange(len(blocks)), dice.choice(list(STEP)), dice.randint(1, most)
        if moved(drawing.blocks[i], side, by) not in drawing.blocks:
            free = [spot for spot in [(dice.randint(-4, 8), dice.randint(-4, 8)) for _ in range(9)]]
            yield drawing, i, side, by, free[0], free[1]


class Slides(unittest.TestCase):
    def test_drawings(self):
        for drawing, i, side, by, _, _ in scenes(1111, 60):
            names, values = NAMES[:4], [drawing, i, side, by]
            calendar = h.ask(self, s.slide_calendar, names, values)
            self.assertTrue(type(calendar) is list and len(calendar) == by + 1 and calendar[0] == drawing)
            others = [block for k, block in enumerate(drawing.blocks) if k != i]
            for k, there in enumerate(calendar):
                self.assertEqual(there.blocks, tuple(sorted(set(others + [moved(drawing.blocks[i], side, k)]))))
            self.assertTrue(h.ask(self, s.displaced, names, values) == calendar[-1])
        # Where it is equal to another one, this stands there once.
        row = Drawing([(0, 0, 1, 1), (2, 0, 3, 1)])
        self.assertEqual([len(there) for there in s.slide_calendar(row, 0, "right", 3)], [2, 2, 1, 2])
        h.fails(self, BadBy, s.slide_calendar, row, 0, "right", 2)
        h.fails(self, BadBy, s.displaced, row, 1, "left", 2)

    def test_moments_one_by_one(self):
        seen = {}
        for drawing, i, side, by, one, other in scenes(1112, 30, 3):
            values = [drawing, i, side, by, one, other]
            riding = h.ask(self, s.stairs_riding, NAMES, values)
            always = h.ask(self, s.stairs_always, NAMES, values)
            once = h.ask(self, s.stairs_once, NAMES, values)
            moments = [moment(drawing, i, side, k) for k in range(4 * by + 1)]
            for body in h.bodies_to(4) + [(1, 7), (7, 1), (20, 20)]:
                shared = [same_chamber(there, four(body), four(one), four(other)) for there in moments]
                self.assertIs(h.stairs_has(always, body), all(shared), values)
                self.assertIs(h.stairs_has(once, body), any(shared), values)
            for body in [(1, 1), (2, 2), (1, 3), (3, 1)]:
                self.assertIs(h.stairs_has(riding, body), lives(moments, four(body), four(one), four(other)), values)
            seen[(always == riding, riding == once)] = True
            self.facts(values, riding, always, once)
        self.assertTrue(len(seen) >= 3, seen)

    def facts(self, values, riding, always, once):
        drawing, i, side, by, one, other = values
        calendar = s.slide_calendar(drawing, i, side, by)
        self.assertEqual(riding, stairs_through(calendar, one, other))
        papers = (riding, through_table(calendar, one, other), tide_table(calendar, one, other))
        self.assertIs(are_season_papers(calendar, one, other, *papers), True)
        self.assertTrue(inside(always, riding))
        found = ()
        for there in calendar:
            found = joined(found, stairs_between(there, one, other))
        self.assertEqual(once, found)
        back = calendar[-1].blocks.index(moved(drawing.blocks[i], side, by))
        self.assertEqual(s.stairs_riding(calendar[-1], back, BACK[side], by, other, one), riding)
        self.assertEqual(s.stairs_always(calendar[-1], back, BACK[side], by, one, other), always)
        self.assertEqual(s.stairs_once(calendar[-1], back, BACK[side], by, one, other), once)

    def test_halfway(self):
        for drawing, i, side, by, one, other in scenes(1113, 20, 3):
            twice = scaled(drawing, 2)
            double = s.stairs_always(twice, twice.blocks.index(tuple(2 * item for item in drawing.blocks[i])), side, 2 * by,
                                     (2 * one[0], 2 * one[1]), (2 * other[0], 2 * other[1]))
            always = s.stairs_always(drawing, i, side, by, one, other)
            for a, b in h.bodies_to(6):
                self.assertIs(h.stairs_has(always, (a, b)), h.stairs_has(double, (2 * a, 2 * b)))

    def test_by_hand(self):
        # A piston pushes into a pen that is shut: who is inside stays, who would be met is not there.
        pen = Drawing(h.pen(0, 0, 8, 8))
        i = pen.blocks.index((7, 0, 8, 8))
        self.assertEqual(s.stairs_riding(pen, i, "left", 3, (1, 1), (1, 1)), ((3, 6),))
        self.assertEqual(s.stairs_riding(pen, i, "right", 3, (1, 1), (7, 1)), ((3, 6),))
        self.assertEqual(s.stairs_always(pen, i, "left", 3, (1, 1), (1, 1)), ((3, 6),))
        self.assertEqual(s.stairs_once(pen, i, "left", 3, (1, 1), (1, 1)), ((6, 6),))
        self.assertEqual(s.stairs_riding(pen, i, "up", 39, (1, 1), (30, 1)), ((6, 6),))
        self.assertEqual(s.stairs_always(pen, i, "up", 39, (1, 1), (30, 1)), ())
        self.assertEqual(s.stairs_once(pen, i, "up", 39, (1, 1), (30, 1)), ((None, 6),))
        # A block is gone round while it comes on, not gone through, also where two whole moments would let it.
        wall = Drawing([(0, 0, 1, 50), (0, -50, 1, 0), (-9, -60, -8, 60)])
        self.assertEqual(s.stairs_riding(wall, 0, "right", 1, (3, 3), (3, 3)), ALL)
        tight = Drawing([(0, 0, 2, 1), (0, 2, 2, 3)])
        self.assertEqual(s.stairs_always(tight, 0, "up", 1, (0, 1), (0, 1)), ())
        far = 999999960
        self.assertEqual(s.stairs_riding(Drawing([(far, -far, far + 1, far)]), 0, "right", 39, (0, 0), (0, 0)), ((far, None),))
        self.assertEqual(s.stairs_always(Drawing([(far, -far, far + 1, far)]), 0, "left", 39, (0, 0), (0, 0)), ((far - 39, None),))

    def test_wrong_inputs(self):
        drawing = Drawing([(0, 0, 2, 2), (5, 5, 6, 7)])
        by = lambda thing: h.number(thing) and 1 <= thing <= 39
        params = [("drawing", BadDrawing, h.drawing), ("i", BadIndex, h.index_below(2)), ("side", BadSide, h.side), ("by", BadBy, by)]
        good = [drawing, 1, "left", 3]
        ends = [("one", BadSpot, h.pair_of_numbers), ("other", BadSpot, h.pair_of_numbers)]
        for function in (s.displaced, s.slide_calendar):
            h.refuse(self, function, params, good)
        for function in (s.stairs_riding, s.stairs_always, s.stairs_once):
            h.refuse(self, function, params + ends, good + [(9, 9), (-3, 3)])
            h.fails(self, BadBy, function, Drawing([(0, 0, 1, 1), (0, 3, 1, 4)]), 0, "up", 3, None, None)
            for value in (0, 40, -1, True, "1", None):
                h.fails(self, BadBy, function, drawing, 0, "up", value, (9, 9), (-3, 3))


if __name__ == "__main__":
    unittest.main()
