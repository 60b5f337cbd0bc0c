import itertools
import random
import unittest

from gapstairs import rings as r
from gapstairs.drawings import Drawing
from gapstairs.errors import BadBody, BadDrawing, BadRing, BadSpot, NotFree
from gapstairs.fits import fits
from gapstairs.marks import mark
from gapstairs.nears import near, near_from
from tests import helpers as h

DRAWING = ("drawing", BadDrawing, h.drawing)
FRONT = [DRAWING, ("body", BadBody, h.body)]
SPOT = ("spot", BadSpot, h.pair_of_numbers)
ENDS = [("one", BadSpot, h.pair_of_numbers), ("other", BadSpot, h.pair_of_numbers)]
PEN = Drawing(h.pen(0, 0, 7, 6))
SCENES = [(Drawing(blocks), body) for blocks, body in h.small_scenes(131, 40, 6)]


def rounds(many, most=7):
    """All tuples that may be a ring for some body."""
    return [
        lot for size in range(3, min(many, most) + 1) for lot in itertools.permutations(range(many), size)
        if lot[0] == min(lot) and lot[1] < lot[-1]
    ]


def all_rings(drawing, body):
    return [
        ring for ring in rounds(len(drawing.blocks))
        if all(near(drawing, body, i, j) for i, j in zip(ring, ring[1:] + ring[:1]))
    ]


def parity_of(drawing, body, ring, spot):
    return sum(mark(drawing, body, spot, i, j) for i, j in zip(ring, ring[1:] + ring[:1])) % 2


def ring_judge(drawing, body):
    return lambda thing: type(thing) is tuple and all(map(h.number, thing)) and thing in all_rings(drawing, body)


class Rings(unittest.TestCase):
    def test_all_rings_of_small_drawings(self):
        dice = random.Random(132)
        for drawing, body in SCENES:
            many = len(drawing.blocks)
            if many > 6:
                continue
            good = all_rings(drawing, body)
            for ring in rounds(many):
                self.assertIs(r.is_ring(drawing, body, ring), ring in good)
                least = r.ring_from(drawing, ring)
                links = [near_from(drawing, i, j) for i, j in zip(ring, ring[1:] + ring[:1])]
                self.assertEqual(least, (max(a for a, _ in links), max(b for _, b in links)))
                self.assertIs(r.is_ring(drawing, body, ring), body[0] >= least[0] and body[1] >= least[1])
            for size in range(5):
                for _ in range(60):
                    thing = tuple(dice.randint(-1, many) for _ in range(size))
                    self.assertIs(r.is_ring(drawing, body, thing), thing in good)

    def test_any_value(self):
        body = (6, 5)
        self.assertIs(r.is_ring(PEN, body, (0, 1, 2)), True)
        h.never(self, lambda thing: r.is_ring(PEN, body, thing), [
            [0, 1, 2], (False, 1, 2), (0, True, 2), (0, 2, 1), (1, 2, 0), (0, 1), (0, 1, 1), (0, 1, 2, 4), (0, 1, 2, -1),
            (0, 1, 2, 1), (), (0,), {0: 1}, None, "012",
        ])
        for value in h.any_values():
            self.assertIs(r.is_ring(PEN, body, value), h.same(value, (0, 1, 2)) or h.same(value, (0, 1, 2, 3)))
            if not (type(value) is tuple and all(map(h.number, value)) and value in rounds(4)):
                h.fails(self, BadRing, r.ring_from, PEN, value)

    def test_refused(self):
        h.refuse(self, r.is_ring, FRONT + [("thing", None, None)], [PEN, (1, 1), 0])
        self.assertIs(r.is_ring(PEN, (1, 1), (0, 1, 2)), False)
        self.assertEqual(r.ring_from(PEN, (0, 1, 2)), (1, 5))
        judge = ring_judge(PEN, (1, 1))
        h.refuse(self, r.ring_from, [DRAWING, ("ring", BadRing, lambda v: v in rounds(4))], [PEN, (0, 1, 2)])
        h.refuse(self, r.parity, FRONT + [("ring", BadRing, judge), SPOT], [PEN, (1, 1), (0, 1, 3, 2), (3, 3)])
        h.fails(self, BadRing, r.parity, PEN, (1, 1), (0, 1, 2), None)
        h.fails(self, BadSpot, r.parity, PEN, (1, 1), (0, 1, 3, 2), None)
        h.fails(self, NotFree, r.parity, PEN, (1, 1), (0, 1, 3, 2), (0, 0))


class Parities(unittest.TestCase):
    def test_parity(self):
        for drawing, body in SCENES:
            if len(drawing.blocks) > 6:
                continue
            spots = h.Flood(drawing.blocks, body).spots()[::7]
            for ring in all_rings(drawing, body)[:40]:
                for spot in spots[:25]:
                    told = r.parity(drawing, body, ring, spot)
                    self.assertTrue(h.same(told, parity_of(drawing, body, ring, spot)))

    def test_heart_a_way_or_a_ring(self):
        """Of two spots that fit, some ring parts them exactly if they share no chamber."""
        dice = random.Random(133)
        parted = 0
        for drawing, body in SCENES:
            flood = h.Flood(drawing.blocks, body)
            closed = [spot for spot in flood.spots() if flood.home[spot] != flood.outer()]
            spots = dice.sample(flood.spots(), min(7, len(flood.spots()))) + dice.sample(closed, min(7, len(closed)))
            every = all_rings(drawing, body) if len(drawing.blocks) <= 6 else []
            for one, other in itertools.product(spots, repeat=2):
                ring = r.parting_ring(drawing, body, one, other)
                if flood.share(one, other):
                    self.assertIsNone(ring)
                    h.never(self, lambda thing: r.is_parting(drawing, body, one, other, thing), every[:30])
                else:
                    parted += 1
                    self.assertIs(r.is_ring(drawing, body, ring), True)
                    self.assertNotEqual(parity_of(drawing, body, ring, one), parity_of(drawing, body, ring, other))
                    self.assertIs(r.is_parting(drawing, body, one, other, ring), True)
        self.assertGreater(parted, 300)

    def test_all_are_judged(self):
        for drawing, body in SCENES:
            if len(drawing.blocks) > 5:
                continue
            spots = h.Flood(drawing.blocks, body).spots()[::29]
            for ring in rounds(len(drawing.blocks)):
                for one, other in itertools.product(spots[:6], repeat=2):
                    wanted = ring in all_rings(drawing, body) and (
                        parity_of(drawing, body, ring, one) != parity_of(drawing, body, ring, other))
                    self.assertIs(r.is_parting(drawing, body, one, other, ring), wanted)
        h.judge_any(self, r.is_parting, PEN, (1, 1), (3, 3), (9, 9))

    def test_fact_for_all_greater_bodies(self):
        for drawing, body in SCENES:
            if len(drawing.blocks) > 5:
                continue
            spots = h.Flood(drawing.blocks, body).spots()[::31][:6]
            for ring in all_rings(drawing, body):
                for one, other in itertools.combinations(spots, 2):
                    wanted = r.is_parting(drawing, body, one, other, ring)
                    for large in ((body[0] + 1, body[1]), (body[0], body[1] + 2), (body[0] + 2, body[1] + 1)):
                        if fits(drawing, large, one) and fits(drawing, large, other):
                            self.assertIs(r.is_parting(drawing, large, one, other, ring), wanted)

    def test_edges(self):
        far = 999999999
        wall = Drawing([(-far, -far, far, 0), (-far, 9, far, far), (-far, 0, -5, 9), (5, 0, far, 9)])
        self.assertIsNotNone(r.parting_ring(wall, (1, 1), (0, 0), (far, 0)))
        self.assertIsNone(r.parting_ring(wall, (1, 1), (0, 0), (4, 8)))
        self.assertIsNone(r.parting_ring(Drawing([]), (1, 1), (0, 0), (4, 8)))
        self.assertIsNone(r.parting_ring(Drawing([(1, 1, 2, 2)]), (1, 1), (0, 0), (4, 8)))
        twelve = Drawing(h.lattice(6, 2))
        for one, other in (((1, 1), (4, 4)), ((1, 1), (7, 1)), ((1, 1), (-9, 0))):
            self.assertIs(r.is_parting(twelve, (1, 1), one, other, r.parting_ring(twelve, (1, 1), one, other)), True)

    def test_refused(self):
        good = [PEN, (1, 1), (3, 3), (9, 9)]
        h.refuse(self, r.parting_ring, FRONT + ENDS, good)
        h.refuse(self, r.is_parting, FRONT + ENDS + [("thing", None, None)], good + [None])
        for one, other in (((0, 0), (9, 9)), ((9, 9), (0, 0)), ((0, 0), (0, 0))):
            h.fails(self, NotFree, r.parting_ring, PEN, (1, 1), one, other)
            h.fails(self, NotFree, r.is_parting, PEN, (1, 1), one, other, None)
        h.fails(self, BadSpot, r.parting_ring, PEN, (1, 1), (0, 0), None)


if __name__ == "__main__":
    unittest.main()
