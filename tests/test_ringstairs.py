import unittest

from gapstairs import ringstairs as r
from gapstairs.bars import is_bar
from gapstairs.drawings import Drawing
from gapstairs.errors import BadDrawing, BadMany, BadOther, BadSpot
from gapstairs.fits import fits
from gapstairs.gaps import gap_grid
from gapstairs.movestairs import move_row
from gapstairs.passages import stairs_between
from gapstairs.rooms import room
from gapstairs.sheets import are_sheet_heights
from gapstairs.stairs import ALL, inside, met, notches
from tests import helpers as h
from tests.test_sheets import EIGHT, PEN, parting_rings

FRONT = [
    ("drawing", BadDrawing, h.drawing), ("one", BadSpot, h.pair_of_numbers), ("other", BadSpot, h.pair_of_numbers),
]
MANY = ("many", BadMany, h.from_zero)
PARAMS = ["drawing", "one", "other", "many"]
HOLED = Drawing([block for block in EIGHT.blocks if block != (8, 1, 9, 5)] + [(8, 3, 9, 5)])
SCENES = h.two_spots(411, 26) + [(EIGHT, (2, 2), (-3, 4)), (HOLED, (2, 2), (12, 4)), (PEN, (1, 1), (9, 9))]


class RingStairs(unittest.TestCase):
    def test_all_rings_at_each_size(self):
        lengths = {}
        for drawing, one, other in SCENES:
            row = h.ask(self, r.ring_row, ["drawing", "one", "other"], [drawing, one, other])
            lengths[len(row)] = lengths.get(len(row), 0) + 1
            if len(drawing) <= 6:
                for size in h.sizes_for(drawing, [one, other]):
                    free = fits(drawing, size, one) and fits(drawing, size, other)
                    least = min([len(ring) for ring in parting_rings(drawing, size, one, other)], default=99) if free else 0
                    for k, stairs in enumerate(row):
                        self.assertIs(h.stairs_has(stairs, size), free and least > k + 2)
            for many in range(len(row) + 4):
                wanted = row[min(max(0, many - 2), len(row) - 1)]
                self.assertEqual(h.ask(self, r.ring_stairs, PARAMS, [drawing, one, other, many]), wanted)
            self.assertEqual(r.ring_stairs(drawing, one, other, 999999999), row[-1])
        self.assertTrue({1, 3, 4, 7} <= set(lengths), lengths)

    def test_facts(self):
        for drawing, one, other in SCENES:
            row = r.ring_row(drawing, one, other)
            self.assertTrue(all(h.stairs(stairs) for stairs in row))
            self.assertEqual(row[0], met(room(drawing, one), room(drawing, other)))
            self.assertEqual(row[-1], stairs_between(drawing, one, other))
            self.assertNotIn(row[-1], row[:-1])
            self.assertTrue(all(inside(b, a) for a, b in zip(row, row[1:])))
            self.assertLessEqual(len(row), max(1, len(drawing) - 1))
            if one == other:
                self.assertEqual(len(row), 1)
            rising = move_row(drawing, one, other)
            self.assertEqual(rising[-1], row[-1])
            self.assertTrue(all(inside(a, b) for a in rising for b in row))
            grid = gap_grid(drawing, [one, other])
            for a, b in [corner for stairs in row for corner in stairs]:
                self.assertTrue((a is None or a in grid[0]) and (b is None or b in grid[1]))
            endless = [[corner for corner in stairs if None in corner] for stairs in row]
            self.assertTrue(all(ends == endless[0] for ends in endless))

    def test_large_numbers(self):
        for drawing, one, other in SCENES:
            row = r.ring_row(drawing, one, other)
            large = h.huge(drawing, one, other)
            self.assertEqual(r.ring_row(*large), [h.huge_stairs(stairs) for stairs in row])
            if one != other:
                self.assertIs(r.is_ring_table(*large, 4, r.ring_table(*large, 4)), True)
                self.assertIs(r.is_sheet_table(*large, 3, r.sheet_table(*large, 3)), True)

    def test_by_hand(self):
        self.assertEqual(r.ring_row(Drawing([]), (0, 0), (5, 5)), [ALL])
        self.assertEqual(r.ring_row(PEN, (1, 1), (1, 1)), [((5, 4),)])
        self.assertEqual(r.ring_row(PEN, (0, 1), (9, 9)), [()])
        inside_pen = ((5, 4),)
        self.assertEqual(r.ring_row(PEN, (1, 1), (9, 9)), [inside_pen, inside_pen, ()])
        self.assertEqual([bool(stairs) for stairs in r.ring_row(EIGHT, (2, 2), (-3, 4))], [True] * 6 + [False])

    def test_refused(self):
        good = [PEN, (1, 1), (9, 9)]
        h.refuse(self, r.ring_row, FRONT, good)
        h.refuse(self, r.ring_stairs, FRONT + [MANY], good + [3])


class Papers(unittest.TestCase):
    def test_tables(self):
        sheets_told = 0
        for drawing, one, other in SCENES:
            if one == other:
                continue
            for many in sorted({0, 2, 3, 4, 8, 999999999}):
                front = (drawing, one, other, many)
                stairs = r.ring_stairs(*front)
                bars = h.ask(self, r.ring_table, PARAMS, list(front))
                self.assertEqual(list(bars), notches(stairs))
                for notch, bar in bars.items():
                    self.assertTrue(is_bar(drawing, notch, one, other, bar))
                    self.assertTrue(bar[0] == "block" or len(bar[1]) <= many)
                sheets = h.ask(self, r.sheet_table, PARAMS, list(front))
                self.assertEqual(list(sheets), [corner for corner in stairs if None not in corner])
                for corner, heights in sheets.items():
                    self.assertTrue(are_sheet_heights(drawing, corner, one, other, many, heights))
                    sheets_told += 1
                self.assertIs(r.is_ring_table(*front, bars), True)
                self.assertIs(r.is_sheet_table(*front, sheets), True)
                self.check_wrong(front, bars, sheets)
        self.assertGreater(sheets_told, 40)

    def check_wrong(self, front, bars, sheets):
        drawing, one, other, many = front
        self.assertIs(r.is_ring_table(*front, dict(reversed(list(bars.items())))), True)
        self.assertIs(r.is_sheet_table(*front, dict(reversed(list(sheets.items())))), True)
        for notch in bars:
            less = {key: bars[key] for key in bars if key != notch}
            h.never(self, lambda thing: r.is_ring_table(*front, thing), [less, {**bars, (77, 78): bars[notch]}, [bars]])
            others = [("ring", (0, 1, 2)), ("ring", (0, 1, 3, 2)), ("block", 0, 0), ("block", 1, 0), None, (), list(bars[notch])]
            for bar in others:
                wanted = is_bar(drawing, notch, one, other, bar) and (bar[0] == "block" or len(bar[1]) <= many)
                self.assertIs(r.is_ring_table(*front, {**bars, notch: bar}), wanted)
        for corner in sheets:
            less = {key: sheets[key] for key in sheets if key != corner}
            h.never(self, lambda thing: r.is_sheet_table(*front, thing), [less, {**sheets, (77, 78): sheets[corner]}, [sheets]])
            for heights in (None, {}, {i: dict.fromkeys(sheets[corner][i], 0) for i in sheets[corner]}):
                wanted = are_sheet_heights(drawing, corner, one, other, many, heights)
                self.assertIs(r.is_sheet_table(*front, {**sheets, corner: heights}), wanted)

    def test_a_ring_that_is_too_long(self):
        both = Drawing(list(EIGHT.blocks) + h.pen(2, 2, 7, 7))
        bars = r.ring_table(both, (4, 4), (-3, 4), 4)
        (notch, (_, ring)), = bars.items()
        self.assertEqual(len(ring), 4)
        outer = r.ring_table(both, (1, 1), (-3, 4), 8)
        long = [bar for bar in outer.values() if bar[0] == "ring"][0]
        self.assertEqual(len(long[1]), 8)
        self.assertIs(is_bar(both, notch, (4, 4), (-3, 4), long), True)
        self.assertIs(r.is_ring_table(both, (4, 4), (-3, 4), 4, {notch: long}), False)
        self.assertIs(r.is_ring_table(both, (4, 4), (-3, 4), 7, {notch: long}), False)
        self.assertIs(r.is_ring_table(both, (4, 4), (-3, 4), 8, {notch: long}), True)

    def test_refused(self):
        good = [PEN, (1, 1), (9, 9), 3]
        for function in (r.ring_table, r.sheet_table):
            h.refuse(self, function, FRONT + [MANY], good)
            h.fails(self, BadOther, function, PEN, (1, 1), (1, 1), None)
            h.fails(self, BadSpot, function, PEN, None, None, None)
        for function in (r.is_ring_table, r.is_sheet_table):
            h.refuse(self, function, FRONT + [MANY, ("thing", None, None)], good + [None])
            h.fails(self, BadOther, function, PEN, (1, 1), (1, 1), None, None)
            for many in (0, 3, 4):
                h.judge_any(self, function, PEN, (1, 1), (9, 9), many)
        bars = r.ring_table(PEN, (1, 1), (9, 9), 4)
        self.assertIs(r.is_ring_table(PEN, (1, 1), (9, 9), 4, {(True, 1): bars[(1, 1)]}), False)


if __name__ == "__main__":
    unittest.main()
