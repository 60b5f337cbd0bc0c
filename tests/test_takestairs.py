import itertools
import unittest

from gapstairs import takestairs as t
from gapstairs.drawings import Drawing, taken
from gapstairs.errors import BadDrawing, BadMany, BadMost, BadSpot
from gapstairs.movestairs import move_stairs
from gapstairs.passages import stairs_between
from gapstairs.removals import is_need_table
from gapstairs.rooms import stairs_of_way
from gapstairs.stairs import ALL, held_whole, inside, joined, notches
from tests import helpers as h
from tests.test_removals import NESTED, PEN, all_lots

FRONT = [
    ("drawing", BadDrawing, h.drawing), ("one", BadSpot, h.pair_of_numbers), ("other", BadSpot, h.pair_of_numbers),
]
MOST = ("most", BadMost, h.from_zero)
MANY = ("many", BadMany, h.from_zero)
PARAMS = ["drawing", "one", "other", "most"]
SCENES = [scene for scene in h.two_spots(431, 20, 5, 3) if len(scene[0]) <= 5]


def serves(drawing, corner, one, other, most, thing):
    if type(thing) is not tuple or len(thing) != 2:
        return False
    lot, stops = thing
    if not h.lot_below(len(drawing))(lot) or len(lot) > most or not h.stops(stops):
        return False
    return stops[0] == one and stops[-1] == other and held_whole(stairs_of_way(taken(drawing, lot), stops), corner)


def all_joined(found):
    told = ()
    for stairs in found:
        told = joined(told, stairs)
    return told


class TakeStairs(unittest.TestCase):
    def test_all_lots(self):
        lengths = {}
        for drawing, one, other in SCENES:
            row = h.ask(self, t.take_row, ["drawing", "one", "other"], [drawing, one, other])
            lengths[len(row)] = lengths.get(len(row), 0) + 1
            between = {lot: stairs_between(taken(drawing, lot), one, other) for lot in all_lots(len(drawing))}
            for most, stairs in enumerate(row):
                wanted = all_joined([between[lot] for lot in between if len(lot) <= most])
                self.assertEqual(stairs, wanted)
            self.assertTrue(all(inside(a, b) for a, b in zip(row, row[1:])))
            self.assertEqual(row[-1], ALL)
            self.assertNotIn(ALL, row[:-1])
            self.assertLessEqual(len(row), len(drawing) + 1)
            for most in (0, 1, 2, 5, 999999999):
                told = h.ask(self, t.take_stairs, PARAMS, [drawing, one, other, most])
                self.assertEqual(told, row[min(most, len(row) - 1)])
        self.assertTrue({1, 2, 3, 4} <= set(lengths), lengths)

    def test_a_walk_at_each_size(self):
        for drawing, one, other in SCENES[:14]:
            stairs = t.take_stairs(drawing, one, other, 1)
            for size in h.sizes_for(drawing, [one, other]):
                wanted = any(
                    h.Flood([block for i, block in enumerate(drawing.blocks) if i not in lot], size, [one, other]).share(one, other)
                    for lot in all_lots(len(drawing), 1))
                self.assertIs(h.stairs_has(stairs, size), wanted)

    def test_by_hand(self):
        self.assertEqual(t.take_row(Drawing([]), (0, 0), (1, 1)), [ALL])
        self.assertEqual(t.take_row(Drawing([(0, 0, 1, 1)]), (0, 0), (1, 1)), [(), ALL])
        # One wall less lets the body out that fits in the pen, two walls less also others.
        self.assertEqual(t.take_row(PEN, (1, 1), (9, 9))[:2], [(), ((5, None), (None, 4))])
        self.assertEqual(t.take_row(PEN, (1, 1), (9, 9))[2], ALL)
        heap = Drawing([(-k, -k, k, k) for k in range(1, 13)])
        self.assertEqual(t.take_row(heap, (0, 0), (20, 20)), [()] * 12 + [ALL])
        self.assertEqual(t.take_stairs(NESTED, (5, 5), (20, 20), 1), ())
        self.assertEqual(t.take_stairs(NESTED, (5, 5), (20, 20), 2)[0], (5, None))

    def test_large_numbers(self):
        for drawing, one, other in SCENES:
            row = t.take_row(drawing, one, other)
            large = h.huge(drawing, one, other)
            self.assertEqual(t.take_row(*large), [h.huge_stairs(stairs) for stairs in row])
            self.assertEqual(t.trade_stairs(*large, 2, 1), h.huge_stairs(t.trade_stairs(drawing, one, other, 2, 1)))
            self.assertIs(t.is_lot_table(*large, 1, t.lot_table(*large, 1)), True)
            self.assertIs(t.are_need_tables(*large, 1, t.need_tables(*large, 1)), True)

    def test_facts_of_one_and_of_more(self):
        for drawing, one, other in SCENES:
            for first, second in ((1, 0), (1, 1), (2, 1)):
                lots = all_lots(len(drawing), first)
                wanted = all_joined([t.take_stairs(taken(drawing, lot), one, other, second) for lot in lots])
                self.assertEqual(t.take_stairs(drawing, one, other, first + second), wanted)

    def test_refused(self):
        good = [PEN, (1, 1), (9, 9)]
        h.refuse(self, t.take_row, FRONT, good)
        h.refuse(self, t.take_stairs, FRONT + [MOST], good + [1])
        h.refuse(self, t.binding, FRONT, good)
        h.refuse(self, t.trade_stairs, FRONT + [MOST, MANY], good + [2, 1])


class Papers(unittest.TestCase):
    def test_lot_tables(self):
        taken_some = 0
        for drawing, one, other in SCENES:
            for most in (0, 1, 2, 5):
                front = (drawing, one, other, most)
                stairs = t.take_stairs(*front)
                table = h.ask(self, t.lot_table, PARAMS, list(front))
                self.assertEqual(tuple(table), stairs)
                self.assertIs(t.is_lot_table(*front, table), True)
                turned = {corner: (table[corner][0], tuple(table[corner][1])) for corner in reversed(list(table))}
                self.assertIs(t.is_lot_table(*front, turned), True)
                for corner, (lot, stops) in table.items():
                    self.assertTrue(serves(drawing, corner, one, other, most, (lot, stops)))
                    self.assertIs(type(stops), list)
                    taken_some += lot != ()
                    wrong = [
                        [lot, stops], (lot, stops, 0), (list(lot), stops), (lot, stops[1:]), (lot, []), (lot, None), None,
                        (lot + (99,), stops), (tuple(lot[::-1]), stops), (tuple(range(len(drawing))), stops), ((), stops),
                    ]
                    for thing in wrong + [(less, stops) for less in all_lots(len(drawing), 2)]:
                        wanted = serves(drawing, corner, one, other, most, thing)
                        self.assertIs(t.is_lot_table(*front, {**table, corner: thing}), bool(wanted))
                    less = {key: table[key] for key in table if key != corner}
                    h.never(self, lambda thing: t.is_lot_table(*front, thing), [less, {**table, (77, 78): table[corner]}, [table]])
        self.assertGreater(taken_some, 20)

    def test_need_tables(self):
        told = 0
        for drawing, one, other in SCENES:
            for most in (0, 1, 2):
                front = (drawing, one, other, most)
                tables = h.ask(self, t.need_tables, PARAMS, list(front))
                self.assertEqual(list(tables), notches(t.take_stairs(*front)))
                self.assertIs(t.are_need_tables(*front, tables), True)
                self.assertIs(t.are_need_tables(*front, dict(reversed(list(tables.items())))), True)
                for notch, table in tables.items():
                    told += 1
                    self.assertEqual(list(table), sorted(table))
                    self.assertTrue(is_need_table(drawing, notch, one, other, most, table))
                    less = {key: tables[key] for key in tables if key != notch}
                    h.never(self, lambda thing: t.are_need_tables(*front, thing), [
                        less, {**tables, (77, 78): table}, [tables], {**tables, notch: None}, {**tables, notch: {}},
                        {**tables, notch: {**table, (): None}}, {**tables, notch: list(table)},
                    ])
                    for second in list(tables.values()) + [{(): ("block", 0, 0)}, {(): ("ring", (0, 1, 3, 2))}]:
                        wanted = is_need_table(drawing, notch, one, other, most, second)
                        self.assertIs(t.are_need_tables(*front, {**tables, notch: second}), wanted)
                    # Fact: the table for the notch is one for all bodies that are at least the notch, as far as it asks blocks.
                    greater = (notch[0] + 50, notch[1] + 50)
                    if all(need[0] == "block" for need in table.values()):
                        self.assertTrue(is_need_table(drawing, greater, one, other, most, table))
        self.assertGreater(told, 40)

    def test_edges(self):
        self.assertEqual(t.lot_table(PEN, (0, 0), (9, 9), 0), {})
        self.assertEqual(t.lot_table(PEN, (0, 0), (0, 0), 99), {(None, None): ((0, 1, 2, 3), [(0, 0)])})
        self.assertEqual(t.need_tables(Drawing([]), (0, 0), (0, 0), 0), {})
        twelve = Drawing(h.lattice(6, 2))
        for most in (0, 1, 2, 12):
            front = (twelve, (1, 1), (4, 4), most)
            self.assertIs(t.is_lot_table(*front, t.lot_table(*front)), True)
            self.assertIs(t.are_need_tables(*front, t.need_tables(*front)), True)

    def test_refused(self):
        good = [PEN, (1, 1), (9, 9), 1]
        h.refuse(self, t.lot_table, FRONT + [MOST], good)
        h.refuse(self, t.need_tables, FRONT + [MOST], good)
        for function in (t.is_lot_table, t.are_need_tables):
            h.refuse(self, function, FRONT + [MOST, ("thing", None, None)], good + [None])
            for most in (0, 1, 2):
                h.judge_any(self, function, PEN, (1, 1), (9, 9), most)
            h.judge_any(self, function, PEN, (0, 0), (9, 9), 0)


class Both(unittest.TestCase):
    def test_trades(self):
        for drawing, one, other in SCENES:
            if len(drawing) > 4:
                continue
            row = t.take_row(drawing, one, other)
            for most, many in itertools.product((0, 1, 2, 3), (0, 1, 2, 4)):
                told = h.ask(self, t.trade_stairs, PARAMS + ["many"], [drawing, one, other, most, many])
                lots = all_lots(len(drawing), many)
                self.assertEqual(told, all_joined([move_stairs(taken(drawing, lot), one, other, most) for lot in lots]))
                self.assertTrue(inside(told, t.trade_stairs(drawing, one, other, most + 1, many)))
                self.assertTrue(inside(told, t.trade_stairs(drawing, one, other, most, many + 1)))
            self.assertEqual(t.trade_stairs(drawing, one, other, 2, len(drawing)), ALL)
            for many in (0, 1, 2):
                self.assertEqual(t.trade_stairs(drawing, one, other, 999999999, many), row[min(many, len(row) - 1)])

    def test_trades_of_twelve(self):
        twelve = Drawing(h.lattice(6, 2))
        self.assertEqual(t.trade_stairs(twelve, (1, 1), (4, 4), 2, 1), ())
        self.assertEqual(t.trade_stairs(twelve, (1, 1), (4, 4), 2, 2), ((2, 2),))
        self.assertEqual(t.trade_stairs(twelve, (1, 1), (4, 4), 1, 12), ())
        self.assertEqual(t.trade_stairs(twelve, (1, 1), (4, 4), 2, 999999999), ALL)

    def test_binding(self):
        told = 0
        for drawing, one, other in SCENES + [(NESTED, (5, 5), (20, 20)), (NESTED, (1, 1), (20, 20))]:
            table = h.ask(self, t.binding, ["drawing", "one", "other"], [drawing, one, other])
            self.assertEqual(list(table), list(range(len(drawing))))
            wanted = notches(stairs_between(drawing, one, other))
            for i, found in table.items():
                without = stairs_between(taken(drawing, (i,)), one, other)
                self.assertEqual(found, [notch for notch in wanted if h.stairs_has(without, notch)])
                told += len(found)
        self.assertGreater(told, 20)
        self.assertEqual(t.binding(Drawing([]), (0, 0), (1, 1)), {})
        self.assertEqual(t.binding(PEN, (1, 1), (9, 9)), {i: [(1, 1)] for i in range(4)})
        self.assertEqual(t.binding(PEN, (0, 1), (9, 9)), {i: [(1, 1)] if i == 0 else [] for i in range(4)})


if __name__ == "__main__":
    unittest.main()
