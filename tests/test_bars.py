import unittest

from gapstairs import bars as b
from gapstairs.chambers import way_between
from gapstairs.climbs import climb_table, is_climb_table
from gapstairs.drawings import Drawing
from gapstairs.errors import BadBody, BadDrawing, BadSpot
from gapstairs.fits import barring, fits
from gapstairs.passages import stairs_between
from gapstairs.rings import is_parting
from gapstairs.stairs import notches
from tests import helpers as h
from tests.test_rings import rounds

DRAWING = ("drawing", BadDrawing, h.drawing)
BODY = ("body", BadBody, h.body)
ENDS = [("one", BadSpot, h.pair_of_numbers), ("other", BadSpot, h.pair_of_numbers)]
PEN = Drawing(h.pen(0, 0, 7, 6))
SCENES = h.two_spots(341, 30)


def possible(many):
    """All triples and pairs that may be a bar."""
    found = [("block", k, i) for k in range(-1, 3) for i in range(-1, many + 1)]
    return found + [("ring", ring) for ring in rounds(many, 5)]


def is_bar(drawing, body, one, other, thing):
    if thing[0] == "block":
        _, k, i = thing
        return k in (0, 1) and i in barring(drawing, body, (one, other)[k])
    if not (fits(drawing, body, one) and fits(drawing, body, other)):
        return False
    return is_parting(drawing, body, one, other, thing[1])


class Bars(unittest.TestCase):
    def test_all_bars_are_judged(self):
        told = {True: 0, False: 0}
        for drawing, one, other in SCENES:
            if len(drawing) > 4:
                continue
            for size in h.sizes_for(drawing, [one, other])[::3]:
                barred = False
                for thing in possible(len(drawing)):
                    wanted = is_bar(drawing, size, one, other, thing)
                    self.assertIs(b.is_bar(drawing, size, one, other, thing), wanted)
                    told[wanted] += 1
                    barred = barred or wanted
                self.assertIs(barred, not h.stairs_has(stairs_between(drawing, one, other), size))
        self.assertGreater(min(told.values()), 200)

    def test_any_value(self):
        ring = (0, 1, 3, 2)
        self.assertIs(b.is_bar(PEN, (1, 1), (1, 1), (9, 9), ("ring", ring)), True)
        h.never(self, lambda thing: b.is_bar(PEN, (1, 1), (1, 1), (9, 9), thing), [
            ("ring", list(ring)), ["ring", ring], ("ring", ring, 0), ("ring",), (), None, ("block", 0, 0), ("rings", ring),
            ("ring", (False, 1, 3, 2)), ("ring", (0, 2, 3, 1)), (True, ring), ("ring", None), ("ring", (0, 1, 2)),
        ])
        self.assertIs(b.is_bar(PEN, (1, 1), (0, 1), (9, 9), ("block", 0, 0)), True)
        self.assertIs(b.is_bar(PEN, (1, 1), (9, 9), (0, 1), ("block", 1, 0)), True)
        h.never(self, lambda thing: b.is_bar(PEN, (1, 1), (0, 1), (9, 9), thing), [
            ("block", False, 0), ("block", 0, False), ("block", 1, 0), ("block", 0, 2), ["block", 0, 0], ("block", 0),
            ("block", 0, 0, 0), ("block", -2, 0), ("block", 0, -4), ("ring", ring), ("ring", ring, 0), "block", {"block": 0},
            ("block", None, 0), ("block", 0, 4), ("block", "0", 0), ("blocks", 0, 0), (True, 0, 0),
        ])
        for front in ((PEN, (1, 1), (1, 1), (9, 9)), (PEN, (1, 1), (0, 1), (9, 9)), (Drawing([]), (1, 1), (0, 1), (9, 9))):
            h.judge_any(self, b.is_bar, *front)

    def test_fact_bars_bar_greater_bodies(self):
        for drawing, one, other in SCENES:
            for notch, bar in b.bar_table(drawing, one, other).items():
                for more in ((0, 1), (1, 0), (3, 2), (40, 40)):
                    size = (notch[0] + more[0], notch[1] + more[1])
                    if bar[0] == "block" or fits(drawing, size, one) and fits(drawing, size, other):
                        self.assertIs(b.is_bar(drawing, size, one, other, bar), True)


class Tables(unittest.TestCase):
    def test_each_notch_has_a_bar(self):
        kinds = {"block": 0, "ring": 0}
        for drawing, one, other in SCENES:
            table = h.ask(self, b.bar_table, ["drawing", "one", "other"], [drawing, one, other])
            self.assertEqual(list(table), notches(stairs_between(drawing, one, other)))
            for notch, bar in table.items():
                self.assertTrue(is_bar(drawing, notch, one, other, bar))
                kinds[bar[0]] += 1
                hits = [(k, i) for k, spot in enumerate((one, other)) for i in barring(drawing, notch, spot)]
                if hits:
                    self.assertEqual(bar, ("block",) + hits[0])
            self.assertIs(b.is_bar_table(drawing, one, other, table), True)
            turned = dict(reversed(list(table.items())))
            self.assertIs(b.is_bar_table(drawing, one, other, turned), True)
            for notch in table:
                less = {key: table[key] for key in table if key != notch}
                more = {**table, (notch[0] + 1, notch[1] + 1): table[notch]}
                h.never(self, lambda thing: b.is_bar_table(drawing, one, other, thing), [less, more, [table]])
                for bar in [None, (), ("block", 0, 99), ("ring", (0, 1, 2, 9)), list(table[notch])] + possible(3):
                    wanted = type(bar) is tuple and bar != () and is_bar(drawing, notch, one, other, bar)
                    self.assertIs(b.is_bar_table(drawing, one, other, {**table, notch: bar}), wanted)
        self.assertGreater(min(kinds.values()), 10)

    def test_heart_both_show_the_staircase_and_no_other(self):
        for drawing, one, other in SCENES:
            stairs = stairs_between(drawing, one, other)
            climbs = climb_table(drawing, one, other)
            bars = b.bar_table(drawing, one, other)
            self.assertIs(b.are_both(drawing, one, other, stairs, climbs, bars), True)
            for second in SCENES:
                told = b.are_both(drawing, one, other, stairs, climb_table(*second), b.bar_table(*second))
                alike = is_climb_table(drawing, one, other, climb_table(*second)) and (
                    b.is_bar_table(drawing, one, other, b.bar_table(*second)))
                self.assertIs(told, alike)
                for ways, bar in ((climbs, bars), (climb_table(*second), b.bar_table(*second))):
                    told = b.are_both(drawing, one, other, stairs_between(*second), ways, bar)
                    self.assertFalse(told and stairs_between(*second) != stairs)

    def test_no_other_staircase_whatever_is_beside_it(self):
        """All staircases of small sizes, with all climbs and bars there are for them."""
        slot = Drawing([(0, -5, 1, 0), (0, 2, 1, 7), (3, -5, 4, -1), (3, 2, 4, 7)])
        one, other = (-3, 0), (6, 0)
        stairs = stairs_between(slot, one, other)
        for thing in h.all_stairs(3):
            ways = {}
            for corner in thing:
                size = tuple(90 if item is None else item for item in corner)
                way = way_between(slot, size, one, other)
                if way is not None:
                    ways[corner] = way
            bars = {}
            for notch in notches(thing):
                for bar in possible(4):
                    if is_bar(slot, notch, one, other, bar):
                        bars[notch] = bar
            told = b.are_both(slot, one, other, thing, ways, bars)
            self.assertIs(told, thing == stairs)

    def test_large_numbers(self):
        for drawing, one, other in SCENES:
            large = h.huge(drawing, one, other)
            stairs = h.huge_stairs(stairs_between(drawing, one, other))
            self.assertIs(b.are_both(*large, stairs, climb_table(*large), b.bar_table(*large)), True)

    def test_by_hand(self):
        self.assertEqual(b.bar_table(Drawing([]), (0, 0), (4, 4)), {})
        self.assertIs(b.is_bar_table(Drawing([]), (0, 0), (4, 4), {}), True)
        self.assertEqual(b.bar_table(PEN, (1, 1), (9, 9)), {(1, 1): ("ring", (0, 1, 3, 2))})
        self.assertEqual(b.bar_table(PEN, (9, 9), (0, 1)), {(1, 1): ("block", 1, 0)})
        self.assertEqual(b.bar_table(PEN, (-3, 0), (-4, 0)), {(4, 1): ("block", 0, 0)})

    def test_refused(self):
        good = [PEN, (1, 1), (9, 9)]
        h.refuse(self, b.bar_table, [DRAWING] + ENDS, good)
        h.refuse(self, b.is_bar_table, [DRAWING] + ENDS + [("thing", None, None)], good + [None])
        h.refuse(self, b.is_bar, [DRAWING, BODY] + ENDS + [("thing", None, None)], [PEN, (1, 1), (1, 1), (9, 9), None])
        names = ["stairs", "climbs", "bars"]
        h.refuse(self, b.are_both, [DRAWING] + ENDS + [(name, None, None) for name in names], good + [(), {}, {}])
        h.judge_any(self, b.is_bar_table, *good)
        h.judge_any(self, b.are_both, *good, (), {})
        bars = b.bar_table(*good)
        for value in h.any_values():
            self.assertIs(b.are_both(*good, value, {}, bars), value == () and type(value) is tuple)
            self.assertIs(b.are_both(*good, (), value, bars), value == {} and type(value) is dict)
        self.assertIs(b.is_bar_table(*good, {(True, 1): bars[(1, 1)]}), False)


if __name__ == "__main__":
    unittest.main()
