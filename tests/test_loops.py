import random
import unittest

from gapstairs import loops as p
from gapstairs.chambers import clusters
from gapstairs.drawings import Drawing
from gapstairs.errors import BadBody, BadDrawing, BadIndex, BadSpot, NotFree
from gapstairs.nests import around, doorstep
from gapstairs.rings import is_parting
from gapstairs.sides import sides_along
from gapstairs.ways import is_way
from tests import helpers as h
from tests.test_rings import all_rings

FRONT = [("drawing", BadDrawing, h.drawing), ("body", BadBody, h.body), ("spot", BadSpot, h.pair_of_numbers)]
SCENES = [(Drawing(blocks), body) for blocks, body in h.small_scenes(171, 40, 6)]
ISLAND = Drawing(h.pen(0, 0, 14, 14) + [(5, 5, 8, 8)])


def line_of(drawing, body, i):
    piece = [one for one in clusters(drawing, body) if i in one][0]
    return sorted([piece] + around(drawing, body, doorstep(drawing, body, i)))


def walks_round(flood, spot, centre):
    """Whether a walk from spot to spot comes back with an odd number of passes left of the centre."""
    seen = {(spot, 0)}
    waiting = [(spot, 0)]
    while waiting:
        (x, y), side = waiting.pop()
        for dx, dy in ((1, 0), (-1, 0), (0, 1), (0, -1)):
            there = (x + dx, y + dy)
            if there not in flood.home or h.is_barred(flood.blocks, flood.size, 2 * x + dx, 2 * y + dy):
                continue
            low, high = sorted((y, y + dy))
            passes = dy != 0 and 2 * x < centre[0] and 2 * low < centre[1] <= 2 * high
            state = (there, (side + passes) % 2)
            if state not in seen:
                seen.add(state)
                waiting.append(state)
    return (spot, 1) in seen


class Loops(unittest.TestCase):
    def test_heart_a_loop_or_a_bar(self):
        dice = random.Random(172)
        told = {True: 0, False: 0}
        for drawing, body in SCENES:
            flood = h.Flood(drawing.blocks, body)
            closed = [spot for spot in flood.spots() if flood.home[spot] != flood.outer()]
            spots = dice.sample(flood.spots(), 1) + dice.sample(closed, min(3, len(closed)))
            for spot in spots:
                for i, block in enumerate(drawing.blocks):
                    centre = (block[0] - body[0] + block[2], block[1] - body[1] + block[3])
                    wanted = walks_round(flood, spot, centre)
                    told[wanted] += 1
                    way = p.loop_round(drawing, body, spot, i)
                    bar = p.loop_bar(drawing, body, spot, i)
                    self.assertIs(way is not None, wanted, (drawing.blocks, body, spot, i))
                    self.assertIs(bar is None, wanted)
                    if wanted:
                        self.check_loop(drawing, body, spot, i, way)
                    else:
                        self.check_bar(drawing, body, spot, i, bar)
        self.assertGreater(min(told.values()), 50)

    def check_loop(self, drawing, body, spot, i, way):
        self.assertIs(type(way), list)
        self.assertTrue(is_way(drawing, body, way) and way[0] == spot and way[-1] == spot)
        self.assertEqual(sides_along(drawing, body, way)[i], 1)
        self.assertIs(p.is_loop_round(drawing, body, spot, i, way), True)
        self.assertIs(p.is_loop_round(drawing, body, spot, i, tuple(way)), True)
        self.assertIs(p.is_loop_round(drawing, body, spot, i, way + way[1:]), False)

    def check_bar(self, drawing, body, spot, i, bar):
        self.assertEqual(list(bar), line_of(drawing, body, i))
        for piece, ring in bar.items():
            self.assertTrue(is_parting(drawing, body, doorstep(drawing, body, piece[0]), spot, ring))
        self.assertIs(p.is_loop_bar(drawing, body, spot, i, bar), True)
        self.assertIs(p.is_loop_bar(drawing, body, spot, i, dict(reversed(list(bar.items())))), True)
        self.assertIs(p.is_loop_bar(drawing, body, spot, i, {**bar, (0, 0): (0, 1, 2)}), False)
        self.assertIs(p.is_loop_bar(drawing, body, spot, i, {}), False)
        for piece in bar:
            if len(drawing.blocks) <= 5:
                for ring in all_rings(drawing, body):
                    wanted = is_parting(drawing, body, doorstep(drawing, body, piece[0]), spot, ring)
                    self.assertIs(p.is_loop_bar(drawing, body, spot, i, {**bar, piece: ring}), wanted)

    def test_by_hand(self):
        i = ISLAND.blocks.index((5, 5, 8, 8))
        for body, gets in (((4, 4), True), ((5, 4), False), ((4, 5), False)):
            way = p.loop_round(ISLAND, body, (1, 1), i)
            self.assertIs(way is not None, gets)
            self.assertIs(p.loop_bar(ISLAND, body, (1, 1), i) is None, gets)
        self.assertIsNotNone(p.loop_round(ISLAND, (3, 3), (-9, -9), i))
        self.assertIsNone(p.loop_round(ISLAND, (3, 3), (1, 1), 0))
        bar = p.loop_bar(ISLAND, (3, 3), (1, 1), 0)
        pieces = clusters(ISLAND, (3, 3))
        self.assertEqual(list(bar), [piece for piece in pieces if 0 in piece])
        self.assertIsNone(p.loop_bar(ISLAND, (3, 3), (1, 1), i))

    def test_far_spots(self):
        far = 999999999
        one = Drawing([(0, 0, 1, 1)])
        for spot in ((far, -far), (-far, far), (-1, -1), (1, 0)):
            self.check_loop(one, (1, 1), spot, 0, p.loop_round(one, (1, 1), spot, 0))
            self.assertIsNone(p.loop_bar(one, (1, 1), spot, 0))
        big = Drawing([(-far, -far, far, far)])
        self.check_loop(big, (far, far), (far, far), 0, p.loop_round(big, (far, far), (far, far), 0))

    def test_any_value(self):
        i = ISLAND.blocks.index((5, 5, 8, 8))
        loop = [(1, 1), (1, 9), (9, 9), (9, 1), (1, 1)]
        self.assertIs(p.is_loop_round(ISLAND, (4, 4), (1, 1), i, loop), True)
        h.never(self, lambda thing: p.is_loop_round(ISLAND, (4, 4), (1, 1), i, thing), [
            loop[1:], loop[:-1], loop[1:] + loop[1:2], [(1, 1)], [], None, {(1, 1): 1}, loop + [(1, True)],
            [(1, 1), (1, 9), (9, 9), (1, 9), (1, 1)], [list(spot) for spot in loop], loop + loop[1:],
            [(1, 1), (1, 10), (9, 10), (9, 1), (1, 1)], [(1, 9), (1, 1)], [(1, 1), (1, 9)],
        ])
        h.judge_any(self, p.is_loop_round, ISLAND, (4, 4), (1, 1), i)
        h.judge_any(self, p.is_loop_bar, ISLAND, (4, 4), (1, 1), i)
        bar = p.loop_bar(ISLAND, (3, 3), (1, 1), 0)
        (piece, ring), = bar.items()
        h.never(self, lambda thing: p.is_loop_bar(ISLAND, (3, 3), (1, 1), 0, thing), [
            {piece: list(ring)}, {piece: (False,) + ring[1:]}, {(False,) + piece[1:]: ring}, {piece: ring[::-1]}, {},
            {piece: None}, {piece: ring, (4,): ring}, [piece], None, {piece: ring[:3]}, {piece[:-1]: ring},
            {piece: tuple(True if k == 1 else k for k in ring)},
        ])
        h.judge_any(self, p.is_loop_bar, ISLAND, (3, 3), (1, 1), 0)

    def test_each_piece_of_the_line_needs_its_ring(self):
        nested = Drawing(h.pen(0, 0, 20, 20) + h.pen(3, 3, 17, 17) + h.pen(6, 6, 14, 14))
        middle = nested.blocks.index((3, 3, 4, 17))
        bar = p.loop_bar(nested, (1, 1), (9, 9), middle)
        self.assertEqual(list(bar), line_of(nested, (1, 1), middle))
        self.assertEqual(len(bar), 2)
        self.assertIs(p.is_loop_bar(nested, (1, 1), (9, 9), middle, bar), True)
        outer, inner = bar
        for ring in (bar[inner], outer, inner, bar[inner][:3], None):
            told = is_parting(nested, (1, 1), doorstep(nested, (1, 1), outer[0]), (9, 9), ring)
            self.assertIs(p.is_loop_bar(nested, (1, 1), (9, 9), middle, {**bar, outer: ring}), told)
        for ring in (bar[outer], outer, inner, bar[outer][:3], None):
            told = is_parting(nested, (1, 1), doorstep(nested, (1, 1), inner[0]), (9, 9), ring)
            self.assertIs(p.is_loop_bar(nested, (1, 1), (9, 9), middle, {**bar, inner: ring}), told)
        # From between the outer and the middle pen only one of the two is parted.
        self.assertIsNone(p.loop_bar(nested, (1, 1), (1, 1), middle))
        self.assertIsNotNone(p.loop_round(nested, (1, 1), (1, 1), middle))

    def test_refused(self):
        good = [ISLAND, (3, 3), (1, 1), 4]
        index = ("i", BadIndex, h.index_below(5))
        for function in (p.loop_round, p.loop_bar):
            h.refuse(self, function, FRONT + [index], good)
            h.fails(self, NotFree, function, ISLAND, (3, 3), (0, 0), 4)
            h.fails(self, BadIndex, function, ISLAND, (3, 3), (0, 0), 5)
            h.fails(self, BadIndex, function, Drawing([]), (3, 3), (0, 0), 0)
        for function in (p.is_loop_round, p.is_loop_bar):
            h.refuse(self, function, FRONT + [index, ("thing", None, None)], good + [None])
            h.fails(self, NotFree, function, ISLAND, (3, 3), (0, 0), 4, None)
            h.fails(self, BadIndex, function, ISLAND, (3, 3), (0, 0), True, None)


if __name__ == "__main__":
    unittest.main()
