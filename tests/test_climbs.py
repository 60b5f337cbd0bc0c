import unittest

from gapstairs import climbs as c
from gapstairs.drawings import Drawing
from gapstairs.errors import BadDrawing, BadSpot
from gapstairs.passages import stairs_between
from gapstairs.rooms import stairs_of_way
from gapstairs.stairs import ALL, held_whole
from gapstairs.ways import is_way
from tests import helpers as h

FRONT = [
    ("drawing", BadDrawing, h.drawing), ("one", BadSpot, h.pair_of_numbers), ("other", BadSpot, h.pair_of_numbers),
]
ONE = Drawing([(0, 0, 2, 3)])
SCENES = h.two_spots(331, 30)


class Climbs(unittest.TestCase):
    def test_each_corner_has_a_climb(self):
        endless = 0
        for drawing, one, other in SCENES:
            table = h.ask(self, c.climb_table, ["drawing", "one", "other"], [drawing, one, other])
            stairs = stairs_between(drawing, one, other)
            self.assertEqual(tuple(table), stairs)
            for corner, way in table.items():
                self.assertIs(type(way), list)
                self.assertTrue(h.stops(way) and way[0] == one and way[-1] == other)
                self.assertTrue(held_whole(stairs_of_way(drawing, way), corner))
                endless += None in corner
                # An endless item is tried far beyond all numbers of the drawing.
                size = tuple(500 if item is None else item for item in corner)
                self.assertTrue(is_way(drawing, size, way))
            self.assertIs(c.is_climb_table(drawing, one, other, table), True)
            turned = {corner: tuple(table[corner]) for corner in reversed(list(table))}
            self.assertIs(c.is_climb_table(drawing, one, other, turned), True)
        self.assertGreater(endless, 10)

    def test_what_is_no_climb_table(self):
        for drawing, one, other in SCENES:
            table = c.climb_table(drawing, one, other)
            for corner in table:
                way = table[corner]
                wrong = [
                    way[1:], way[:-1] if len(way) > 1 else [], [], None, [list(spot) for spot in way], way + [way[-1]],
                    [(True, True)] + way[1:], {0: way}, way + [(way[-1][0], way[-1][1] + 0.5)],
                ]
                if one != other:
                    wrong.append([one, other] if one[0] != other[0] and one[1] != other[1] else way[::-1])
                h.never(self, lambda thing: c.is_climb_table(drawing, one, other, {**table, corner: thing}), wrong)
                less = {key: table[key] for key in table if key != corner}
                more = {**table, (corner[0], 77): way}
                h.never(self, lambda thing: c.is_climb_table(drawing, one, other, thing), [less, more, [table], None])

    def test_each_list_of_stops_is_judged(self):
        two = Drawing([(0, 0, 2, 3), (4, 1, 5, 6)])
        one, other = (2, 8), (2, -4)
        found = c.climb_table(two, one, other)
        for corner in found:
            for x in range(-12, 12):
                stops = [one, (x, 8), (x, -4), other] if x != 2 else [one, other]
                wanted = held_whole(stairs_of_way(two, stops), corner)
                self.assertIs(c.is_climb_table(two, one, other, {**found, corner: stops}), wanted)

    def test_by_hand(self):
        self.assertEqual(c.climb_table(ONE, (2, 3), (2, 3)), {(None, None): [(2, 3)]})
        self.assertEqual(c.climb_table(ONE, (1, 1), (9, 9)), {})
        self.assertIs(c.is_climb_table(ONE, (1, 1), (9, 9), {}), True)
        self.assertIs(c.is_climb_table(ONE, (1, 1), (9, 9), {(1, 1): [(1, 1)]}), False)
        self.assertEqual(tuple(c.climb_table(Drawing([]), (0, 0), (5, 5))), ALL)
        self.assertIs(c.is_climb_table(ONE, (2, 3), (5, 4), {(None, None): [(2, 3), (2, 4), (5, 4)]}), True)
        self.assertIs(c.is_climb_table(ONE, (2, 3), (5, 4), {(None, None): [(2, 3), (5, 3), (5, 4)]}), True)
        self.assertIs(c.is_climb_table(ONE, (2, 3), (5, 4), {(None, None): [(2, 3), (2, 2), (5, 2), (5, 4)]}), True)
        self.assertIs(c.is_climb_table(ONE, (2, 3), (5, 4), {(None, None): [(2, 3), (1, 3), (1, 4), (5, 4)]}), True)
        self.assertIs(c.is_climb_table(ONE, (2, 3), (1, 3), {(None, None): [(2, 3), (2, 2), (1, 2), (1, 3)]}), False)
        far = 999999999
        table = c.climb_table(ONE, (-far, -far), (far, far))
        self.assertIs(c.is_climb_table(ONE, (-far, -far), (far, far), table), True)

    def test_refused(self):
        h.refuse(self, c.climb_table, FRONT, [ONE, (2, 0), (-5, 0)])
        h.refuse(self, c.is_climb_table, FRONT + [("thing", None, None)], [ONE, (2, 0), (-5, 0), None])
        h.judge_any(self, c.is_climb_table, ONE, (2, 0), (-5, 0))
        table = c.climb_table(ONE, (-2, 0), (-1, 0))
        self.assertIn((1, None), table)
        strange = {(True, None) if corner == (1, None) else corner: way for corner, way in table.items()}
        self.assertIs(c.is_climb_table(ONE, (-2, 0), (-1, 0), table), True)
        self.assertIs(c.is_climb_table(ONE, (-2, 0), (-1, 0), strange), False)


if __name__ == "__main__":
    unittest.main()
