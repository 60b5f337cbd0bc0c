import random
import unittest

from gapstairs import movestairs as m
from gapstairs.drawings import Drawing, flipped_drawing
from gapstairs.errors import BadDrawing, BadMost, BadOther, BadSpot, BadStairs
from gapstairs.gaps import gap_grid
from gapstairs.moves import are_heights
from gapstairs.passages import stairs_between
from gapstairs.rooms import room, stairs_of_way
from gapstairs.stairs import ALL, flipped, held_whole, inside, met, notches
from tests import helpers as h
from tests.test_moves import TRAP

FRONT = [
    ("drawing", BadDrawing, h.drawing), ("one", BadSpot, h.pair_of_numbers), ("other", BadSpot, h.pair_of_numbers),
]
MOST = ("most", BadMost, h.from_zero)
PARAMS = ["drawing", "one", "other", "most"]
SCENES = h.two_spots(381, 16) + [(TRAP, (1, 1), (14, 7)), (TRAP, (6, 3), (1, 7)), (TRAP, (2, 1), (-3, 12))]


def serves(drawing, corner, one, other, stops, most):
    return (
        h.stops(stops) and stops[0] == one and stops[-1] == other and len(stops) <= most + 1
        and held_whole(stairs_of_way(drawing, stops), corner)
    )


class MoveStairs(unittest.TestCase):
    def test_a_search_at_each_size(self):
        longest = 0
        for drawing, one, other in SCENES:
            row = h.ask(self, m.move_row, ["drawing", "one", "other"], [drawing, one, other])
            longest = max(longest, len(row))
            for size in h.sizes_for(drawing, [one, other]):
                found = h.Flood(drawing.blocks, size, [one, other]).moves_from(one).get(other)
                for most, stairs in enumerate(row):
                    wanted = found is not None and found <= most
                    self.assertIs(h.stairs_has(stairs, size), wanted, (drawing.blocks, one, other, size, most))
            for most in range(len(row) + 2):
                wanted = row[min(most, len(row) - 1)]
                self.assertEqual(h.ask(self, m.move_stairs, PARAMS, [drawing, one, other, most]), wanted)
            self.assertEqual(m.move_stairs(drawing, one, other, 999999999), row[-1])
        self.assertGreater(longest, 5)

    def test_facts_of_rows(self):
        dice = random.Random(382)
        for drawing, one, other in SCENES:
            row = m.move_row(drawing, one, other)
            self.assertTrue(all(h.stairs(stairs) for stairs in row))
            self.assertEqual(row[-1], stairs_between(drawing, one, other))
            self.assertNotIn(row[-1], row[:-1])
            self.assertTrue(all(inside(a, b) for a, b in zip(row, row[1:])))
            self.assertEqual(row[0], room(drawing, one) if one == other else ())
            if one == other:
                self.assertEqual(len(row), 1)
            self.assertEqual(m.move_row(drawing, other, one), row)
            turned = m.move_row(flipped_drawing(drawing), one[::-1], other[::-1])
            self.assertEqual(turned, [flipped(stairs) for stairs in row])
            grid = gap_grid(drawing, [one, other])
            for a, b in [corner for stairs in row for corner in stairs]:
                self.assertTrue((a is None or a in grid[0]) and (b is None or b in grid[1]))
            endless = [[corner for corner in stairs if None in corner] for stairs in row[3:]]
            self.assertTrue(all(ends == endless[0] for ends in endless))
            third = (dice.randint(-5, 9), dice.randint(-5, 9))
            for k, n in ((1, 1), (2, 1), (2, 2)):
                through = met(m.move_stairs(drawing, one, third, k), m.move_stairs(drawing, third, other, n))
                self.assertTrue(inside(through, m.move_stairs(drawing, one, other, k + n)))

    def test_large_numbers(self):
        for drawing, one, other in SCENES[2:]:
            row = m.move_row(drawing, one, other)
            large = h.huge(drawing, one, other)
            self.assertEqual(m.move_row(*large), [h.huge_stairs(stairs) for stairs in row])
            if one != other:
                for most in (1, 2, 3, 4):
                    papers = m.short_table(*large, most), m.height_table(*large, most)
                    stairs = h.huge_stairs(m.move_stairs(drawing, one, other, most))
                    self.assertIs(m.are_move_papers(*large, most, stairs, *papers), True)

    def test_by_hand(self):
        none = Drawing([])
        self.assertEqual(m.move_row(none, (0, 0), (0, 0)), [ALL])
        self.assertEqual(m.move_row(none, (0, 0), (0, 9)), [(), ALL])
        self.assertEqual(m.move_row(none, (0, 0), (3, 9)), [(), (), ALL])
        one = Drawing([(0, 0, 2, 3)])
        self.assertEqual(m.move_row(one, (1, 1), (1, 1)), [()])
        self.assertEqual(m.move_row(one, (1, 1), (9, 9)), [()])
        self.assertEqual(m.move_row(one, (-5, 0), (5, 0)), [(), (), (), ((5, None),)])
        self.assertEqual(m.move_row(one, (-5, 0), (5, 4)), [(), (), ((5, None),)])
        slot = Drawing([(0, -9, 1, 0), (0, 3, 1, 9)])
        self.assertEqual(m.move_row(slot, (-5, 0), (5, 0)), [(), ((None, 3),), ((None, 3),), ((5, None), (None, 3))])

    def test_refused(self):
        good = [TRAP, (1, 1), (14, 7)]
        h.refuse(self, m.move_row, FRONT, good)
        h.refuse(self, m.move_stairs, FRONT + [MOST], good + [3])


class Papers(unittest.TestCase):
    def test_tables(self):
        for drawing, one, other in SCENES:
            if one == other:
                continue
            row = m.move_row(drawing, one, other)
            for most in range(len(row) + 1):
                stairs = m.move_stairs(drawing, one, other, most)
                ways = h.ask(self, m.short_table, PARAMS, [drawing, one, other, most])
                self.assertEqual(tuple(ways), stairs)
                for corner, stops in ways.items():
                    self.assertIs(type(stops), list)
                    self.assertTrue(serves(drawing, corner, one, other, stops, most))
                tables = h.ask(self, m.height_table, PARAMS, [drawing, one, other, most])
                self.assertEqual(list(tables), notches(stairs))
                for notch, heights in tables.items():
                    self.assertTrue(are_heights(drawing, notch, one, other, most, heights))
                front = (drawing, one, other, most)
                self.assertIs(m.is_short_table(*front, ways), True)
                self.assertIs(m.is_height_table(*front, tables), True)
                self.assertIs(m.are_move_papers(*front, stairs, ways, tables), True)
                self.check_wrong(front, stairs, ways, tables)

    def check_wrong(self, front, stairs, ways, tables):
        drawing, one, other, most = front
        turned = dict(reversed([(corner, tuple(stops)) for corner, stops in ways.items()]))
        self.assertIs(m.is_short_table(*front, turned), True)
        self.assertIs(m.is_height_table(*front, dict(reversed(list(tables.items())))), True)
        for corner in ways:
            for stops in (ways[corner] + [other], ways[corner][1:], ways[corner][::-1], [one, other], None, (), one):
                told = m.is_short_table(*front, {**ways, corner: stops})
                self.assertIs(told, bool(serves(drawing, corner, one, other, stops, most)))
            longer = ways[corner][:-1] + [other, (other[0] + 1, other[1]), other]
            self.assertIs(
                m.is_short_table(*front, {**ways, corner: longer}), serves(drawing, corner, one, other, longer, most))
            less = {key: ways[key] for key in ways if key != corner}
            h.never(self, lambda thing: m.is_short_table(*front, thing), [less, {**ways, (77, 78): ways[corner]}, [ways]])
            self.assertIs(m.are_move_papers(*front, stairs, less, tables), False)
        for notch in tables:
            less = {key: tables[key] for key in tables if key != notch}
            h.never(self, lambda thing: m.is_height_table(*front, thing), [less, {**tables, (77, 78): tables[notch]}, [tables]])
            self.assertIs(m.are_move_papers(*front, stairs, ways, less), False)
            high = {lane: height + 9 for lane, height in tables[notch].items()}
            for heights in (high, {}, None, list(tables[notch])):
                told = m.is_height_table(*front, {**tables, notch: heights})
                self.assertIs(told, are_heights(drawing, notch, one, other, most, heights))

    def test_heart_papers_hold_for_no_other_staircase(self):
        told = 0
        for drawing, one, other in SCENES[:14] + SCENES[-3:]:
            if one == other:
                continue
            row = m.move_row(drawing, one, other) + [ALL]
            for most in range(len(row)):
                for second in range(len(row)):
                    for third in range(len(row)):
                        ways = m.short_table(drawing, one, other, second)
                        tables = m.height_table(drawing, one, other, third)
                        for stairs in row:
                            good = m.are_move_papers(drawing, one, other, most, stairs, ways, tables)
                            if good:
                                self.assertEqual(stairs, m.move_stairs(drawing, one, other, most))
                                told += 1
        self.assertGreater(told, 20)

    def test_edges(self):
        one = Drawing([(0, 0, 2, 3)])
        self.assertEqual(m.short_table(one, (-5, 0), (5, 0), 2), {})
        self.assertEqual(list(m.height_table(one, (-5, 0), (5, 0), 2)), [(1, 1)])
        for ends in (((-5, 0), (5, 0)), ((-5, 0), (5, 4)), ((2, 0), (2, 9)), ((2, 3), (9, 9))):
            for most in (0, 1, 2, 3, 4, 999999999):
                ways = m.short_table(one, *ends, most)
                self.assertIs(m.is_short_table(one, *ends, most, ways), True)
        # For all widths only one of the two corners between the spots will do.
        block = Drawing([(2, 3, 4, 4), (9, 20, 10, 21)])
        for ends in (((0, 0), (5, 6)), ((5, 6), (0, 0))):
            self.assertEqual(m.short_table(block, *ends, 2)[(None, 3)], [ends[0], (5, 0), ends[1]])
            turned = flipped_drawing(block), ends[0][::-1], ends[1][::-1], 2
            self.assertEqual(m.short_table(*turned)[(3, None)], [turned[1], (0, 5), turned[2]])
        # Only by far to the right, or by far above, do all widths, or heights, get there.
        for drawing, ends in ((Drawing([(2, 3, 4, 4)]), ((0, 0), (0, 6))), (Drawing([(3, 2, 4, 4)]), ((0, 0), (6, 0)))):
            self.assertEqual(m.move_row(drawing, *ends)[2:], m.move_row(drawing, *ends)[2:3] + [stairs_between(drawing, *ends)])
            self.assertTrue(all(None in corner for corner in m.short_table(drawing, *ends, 3)))
            ways = m.short_table(drawing, *ends, 3)
            self.assertIs(m.is_short_table(drawing, *ends, 3, ways), True)
        self.assertEqual(m.height_table(Drawing([]), (0, 0), (1, 1), 2), {})
        self.assertIs(m.are_move_papers(Drawing([]), (0, 0), (1, 1), 2, ALL, {(None, None): [(0, 0), (0, 1), (1, 1)]}, {}), True)
        self.assertIs(m.are_move_papers(Drawing([]), (0, 0), (1, 1), 1, ALL, {(None, None): [(0, 0), (0, 1), (1, 1)]}, {}), False)

    def test_refused(self):
        good = [TRAP, (1, 1), (14, 7), 3]
        for function in (m.short_table, m.height_table):
            h.refuse(self, function, FRONT + [MOST], good)
            h.fails(self, BadOther, function, TRAP, (1, 1), (1, 1), None)
            h.fails(self, BadSpot, function, TRAP, None, None, None)
        for function in (m.is_short_table, m.is_height_table):
            h.refuse(self, function, FRONT + [MOST, ("thing", None, None)], good + [None])
            h.fails(self, BadOther, function, TRAP, (1, 1), (1, 1), None, None)
            h.judge_any(self, function, *good)
            h.judge_any(self, function, TRAP, (0, 0), (1, 1), 0)
        papers = [("stairs", BadStairs, h.stairs), ("ways", None, None), ("tables", None, None)]
        h.refuse(self, m.are_move_papers, FRONT + [MOST] + papers, good + [(), {}, {}])
        h.fails(self, BadOther, m.are_move_papers, TRAP, (1, 1), (1, 1), None, None, None, None)
        h.fails(self, BadMost, m.are_move_papers, TRAP, (1, 1), (1, 2), True, None, None, None)
        h.judge_any(self, m.are_move_papers, *good, (), {})
        for value in h.any_values():
            self.assertIs(type(m.are_move_papers(*good, ((1, 1),), value, {})), bool)


if __name__ == "__main__":
    unittest.main()
