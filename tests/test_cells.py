import itertools
import random
import unittest

from gapstairs import cells as c
from gapstairs.drawings import Drawing
from gapstairs.errors import BadBody, BadDrawing, BadNames, BadSpot, BadSpots
from gapstairs.fits import fits
from gapstairs.gaps import gap_grid
from gapstairs.touching import SIDES, gone, slid, touched
from tests import helpers as h

FRONT = [("drawing", BadDrawing, h.drawing), ("spots", BadSpots, h.list_of(h.pair_of_numbers))]
BODY = ("body", BadBody, h.body)
TWO = Drawing([(0, 0, 2, 3), (4, 1, 5, 6)])
ACROSS = {"left": ("down", "up"), "right": ("down", "up"), "down": ("left", "right"), "up": ("left", "right")}


def ranges(numbers):
    """The fine ranges, by asking of each size whether it is like the one before it."""
    most = max(numbers, default=0) + 2
    kinds = [n if n in numbers else -sum(1 for k in numbers if k < n) for n in range(1, most + 1)]
    found = []
    for _, group in itertools.groupby(range(1, most + 1), key=lambda n: kinds[n - 1]):
        row = list(group)
        found.append((row[0], None if row[-1] == most else row[-1]))
    return found


def name_judge(drawing, spots):
    def one(thing, kinds):
        if type(thing) is not tuple or len(thing) != 2 or type(thing[0]) is not str or thing[0] not in kinds:
            return False
        return h.index_below(len(spots) if thing[0] == "spot" else len(drawing))(thing[1])

    def both(thing):
        return type(thing) is tuple and len(thing) == 2 and (
            one(thing[0], ("spot", "right", "left")) and one(thing[1], ("spot", "high", "low")))
    return both


def all_names(drawing, spots):
    blocks = range(len(drawing))
    xs = [("spot", k) for k in range(len(spots))] + [(kind, i) for kind in ("right", "left") for i in blocks]
    ys = [("spot", k) for k in range(len(spots))] + [(kind, i) for kind in ("high", "low") for i in blocks]
    return xs, ys


def value(drawing, spots, body, name, axis):
    kind, k = name
    if kind == "spot":
        return spots[k][axis]
    return drawing.blocks[k][axis + 2] if kind in ("right", "high") else drawing.blocks[k][axis] - body[axis]


def scenes(seed, rounds=25):
    dice = random.Random(seed)
    found = [(Drawing([]), []), (Drawing([]), [(1, 2)]), (TWO, []), (TWO, [(-3, 0)])]
    for blocks, _ in h.small_scenes(seed, rounds, 5):
        found.append((Drawing(blocks[:6]), [(dice.randint(-7, 7), dice.randint(-7, 7)) for _ in range(dice.randint(0, 3))]))
    return found


class Cells(unittest.TestCase):
    def test_fine_cells(self):
        for drawing, spots in scenes(521):
            grid = gap_grid(drawing, spots)
            wanted = [(wide, high) for wide in ranges(grid[0]) for high in ranges(grid[1])]
            told = h.ask(self, c.fine_cells, ["drawing", "spots"], [drawing, spots])
            self.assertTrue(h.same(told, wanted))
            for body in h.bodies_to(7) + [(1, 999999999), (999999999, 1), (20, 20)]:
                cell = h.ask(self, c.fine_cell, ["drawing", "spots", "body"], [drawing, tuple(spots), body])
                mine = [one for one in wanted if all(
                    span[0] <= size and (span[1] is None or size <= span[1]) for span, size in zip(one, body))]
                self.assertEqual([cell], mine)

    def test_cells_by_hand(self):
        self.assertEqual(c.fine_cells(Drawing([]), []), [((1, None), (1, None))])
        self.assertEqual(c.fine_cells(TWO, []), [(wide, (1, None)) for wide in ((1, 1), (2, 2), (3, None))])
        self.assertEqual(c.fine_cell(TWO, [(-3, 0)], (5, 1)), ((4, 6), (1, 1)))
        self.assertEqual([cell[0] for cell in c.fine_cells(TWO, [(-3, 0)])][::2], [
            (1, 1), (2, 2), (3, 3), (4, 6), (7, 7), (8, None)])

    def test_names_and_places(self):
        dice = random.Random(522)
        for drawing, spots in scenes(523):
            xs, ys = all_names(drawing, spots)
            for body in [(1, 1), (2, 3), (dice.randint(1, 9), dice.randint(1, 9))]:
                for x in xs:
                    for y in ys:
                        spot = (value(drawing, spots, body, x, 0), value(drawing, spots, body, y, 1))
                        self.assertEqual(c.place(drawing, spots, body, (x, y)), spot)
                        first = (
                            [one for one in xs if value(drawing, spots, body, one, 0) == spot[0]][0],
                            [one for one in ys if value(drawing, spots, body, one, 1) == spot[1]][0],
                        )
                        self.assertEqual(c.named(drawing, spots, body, spot), first)
                for _ in range(10):
                    spot = (dice.randint(-9, 9), dice.randint(-9, 9))
                    among = (spot[0] in [value(drawing, spots, body, one, 0) for one in xs]
                             and spot[1] in [value(drawing, spots, body, one, 1) for one in ys])
                    self.assertIs(c.named(drawing, spots, body, spot) is not None, among)

    def test_heart_bodies_of_one_cell_do_alike(self):
        dice = random.Random(524)
        for drawing, spots in scenes(525, 12):
            if not drawing.blocks:
                continue
            xs, ys = all_names(drawing, spots)
            for cell in dice.sample(c.fine_cells(drawing, spots), min(12, len(c.fine_cells(drawing, spots)))):
                two = [tuple(dice.randint(least, (most or least + 30)) for least, most in cell) for _ in range(2)]
                for names in [(dice.choice(xs), dice.choice(ys)) for _ in range(6)]:
                    self.check_alike(drawing, spots, two, names)

    def check_alike(self, drawing, spots, two, names):
        places = [c.place(drawing, spots, body, names) for body in two]
        known = [c.named(drawing, spots, body, place) for body, place in zip(two, places)]
        self.assertEqual(known[0], known[1])
        free = [fits(drawing, body, place) for body, place in zip(two, places)]
        self.assertEqual(free[0], free[1])
        if not free[0]:
            return
        felt = [touched(drawing, body, place) for body, place in zip(two, places)]
        self.assertEqual(felt[0], felt[1])
        for side in SIDES:
            ends = [gone(drawing, body, place, side) for body, place in zip(two, places)]
            told = [end and c.named(drawing, spots, body, end) for body, end in zip(two, ends)]
            self.assertEqual(told[0], told[1])
            for along in ACROSS[side]:
                ends = [slid(drawing, body, place, side, along) for body, place in zip(two, places)]
                told = [c.named(drawing, spots, body, end) for body, end in zip(two, ends)]
                self.assertTrue(told[0] == told[1] and told[0] is not None)

    def test_refused(self):
        spots = [(-3, 0), (1, 1)]
        h.refuse(self, c.fine_cells, FRONT, [TWO, spots])
        h.refuse(self, c.fine_cell, FRONT + [BODY], [TWO, spots, (1, 1)])
        h.refuse(self, c.named, FRONT + [BODY, ("spot", BadSpot, h.pair_of_numbers)], [TWO, spots, (1, 1), (0, 0)])
        names = ("names", BadNames, name_judge(TWO, spots))
        h.refuse(self, c.place, FRONT + [BODY, names], [TWO, spots, (1, 1), (("left", 1), ("spot", 0))])
        for thing in (
                (("spot", 2), ("spot", 0)), (("spot", 0), ("spot", 2)), (("left", 2), ("low", 0)), (("low", 0), ("low", 0)),
                (("left", 0), ("left", 0)), (("left", -1), ("low", 0)), (("left", True), ("low", 0)), [("left", 0), ("low", 0)],
                (["left", 0], ("low", 0)), (("left", 0), ("low", 0), 0), (("left", 0),), (("left", 0, 0), ("low", 0)), None,
                (("high", 0), ("high", 0)), (("right", 0), ("right", 0)), ((None, 0), ("low", 0)), (("left", None), ("low", 0))):
            h.fails(self, BadNames, c.place, TWO, spots, (1, 1), thing)
        h.fails(self, BadNames, c.place, Drawing([]), [], (1, 1), (("spot", 0), ("spot", 0)))
        h.fails(self, BadNames, c.place, Drawing([]), spots, (1, 1), (("right", 0), ("spot", 0)))


if __name__ == "__main__":
    unittest.main()
