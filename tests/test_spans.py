import itertools
import random
import unittest

from gapstairs import spans as s
from gapstairs.chambers import closed_chambers, first_spot
from gapstairs.drawings import Drawing
from gapstairs.errors import BadBody, BadDrawing, BadRing, BadSpots, NotFree
from gapstairs.rings import is_ring
from tests import helpers as h
from tests.test_rings import all_rings, parity_of, ring_judge

FRONT = [("drawing", BadDrawing, h.drawing), ("body", BadBody, h.body)]
SPOTS = ("spots", BadSpots, h.list_of(h.pair_of_numbers))
PEN = Drawing(h.pen(0, 0, 7, 6))
SCENES = [(Drawing(blocks), body) for blocks, body in h.small_scenes(151, 40, 6)]


def plus(one, other):
    return tuple((a + b) % 2 for a, b in zip(one, other))


def spots_of(dice, drawing, body, many):
    flood = h.Flood(drawing.blocks, body)
    closed = [spot for spot in flood.spots() if flood.home[spot] != flood.outer()]
    found = dice.sample(flood.spots(), min(2, len(flood.spots()))) + dice.sample(closed, min(many, len(closed)))
    dice.shuffle(found)
    return flood, found + found[:1]


class Vectors(unittest.TestCase):
    def test_vector(self):
        dice = random.Random(152)
        for drawing, body in SCENES:
            if len(drawing.blocks) > 6:
                continue
            _, spots = spots_of(dice, drawing, body, 3)
            for ring in all_rings(drawing, body)[:20]:
                told = s.vector(drawing, body, ring, spots)
                self.assertTrue(h.same(told, tuple(parity_of(drawing, body, ring, spot) for spot in spots)))
                self.assertTrue(h.same(s.vector(drawing, body, ring, tuple(spots)), told))

    def test_refused(self):
        ring = (0, 1, 3, 2)
        params = FRONT + [("ring", BadRing, ring_judge(PEN, (1, 1))), SPOTS]
        h.refuse(self, s.vector, params, [PEN, (1, 1), ring, [(9, 9), (3, 3)]])
        self.assertEqual(s.vector(PEN, (1, 1), ring, [(9, 9), (3, 3)]), (0, 1))
        self.assertEqual(s.vector(PEN, (1, 1), ring, []), ())
        h.fails(self, NotFree, s.vector, PEN, (1, 1), ring, [(9, 9), (0, 0)])
        h.fails(self, BadSpots, s.vector, PEN, (1, 1), ring, [(0, 0), (0, True)])
        h.fails(self, BadRing, s.vector, PEN, (1, 1), (0, 1, 2), [(0, 0)])


class Spans(unittest.TestCase):
    def test_reduced_basis_of_all_sums(self):
        dice = random.Random(153)
        for drawing, body in SCENES:
            if len(drawing.blocks) > 5:
                continue
            _, spots = spots_of(dice, drawing, body, 3)
            sums = {tuple(0 for _ in spots)}
            for ring in all_rings(drawing, body):
                one = tuple(parity_of(drawing, body, ring, spot) for spot in spots)
                sums |= {plus(one, other) for other in sums}
            told = h.ask(self, s.span, ["drawing", "body", "spots"], [drawing, body, spots])
            mixed = {tuple(0 for _ in spots)}
            for one in told:
                mixed |= {plus(one, other) for other in mixed}
            self.assertEqual(mixed, sums)
            self.check_reduced(told)

    def check_reduced(self, told):
        self.assertIs(type(told), list)
        firsts = [one.index(1) for one in told]
        self.assertEqual(firsts, sorted(set(firsts)))
        for one, at in zip(told, firsts):
            self.assertEqual([other[at] for other in told], [int(other is one) for other in told])

    def test_heart_closed_chambers_among_the_spots(self):
        dice = random.Random(154)
        for drawing, body in SCENES:
            flood, spots = spots_of(dice, drawing, body, 8)
            groups = {}
            for spot in spots:
                if flood.home[spot] != flood.outer():
                    groups[flood.home[spot]] = tuple(int(flood.home[one] == flood.home[spot]) for one in spots)
            told = s.span(drawing, body, spots)
            self.assertTrue(h.same(told, list(groups.values())))
            self.check_reduced(told)

    def test_many_chambers(self):
        lattice = Drawing(h.lattice(6, 2))
        spots = closed_chambers(lattice, (1, 1))
        self.assertEqual(len(spots), 25)
        told = s.span(lattice, (1, 1), spots + [(-9, -9)])
        self.assertEqual(told, [tuple(int(k == i) for k in range(26)) for i in range(25)])
        for key, rings in s.showing(lattice, (1, 1), spots + [(-9, -9)]).items():
            total = tuple(0 for _ in key)
            for ring in rings:
                total = plus(total, s.vector(lattice, (1, 1), ring, spots + [(-9, -9)]))
            self.assertEqual(total, key)

    def test_no_spots_and_no_blocks(self):
        self.assertEqual(s.span(PEN, (1, 1), []), [])
        self.assertEqual(s.showing(PEN, (1, 1), ()), {})
        self.assertEqual(s.span(Drawing([]), (1, 1), [(0, 0), (0, 0)]), [])
        self.assertEqual(s.span(PEN, (1, 1), [(3, 3), (9, 9), (3, 3)]), [(1, 0, 1)])
        self.assertEqual(s.span(PEN, (1, 1), [(9, 9)]), [])
        self.assertEqual(first_spot(PEN, (1, 1), (3, 3)), (1, 1))


class Showing(unittest.TestCase):
    def test_it_sums_to_the_span(self):
        dice = random.Random(155)
        for drawing, body in SCENES:
            _, spots = spots_of(dice, drawing, body, 6)
            told = h.ask(self, s.showing, ["drawing", "body", "spots"], [drawing, body, spots])
            self.assertEqual(list(told), s.span(drawing, body, spots))
            for key, rings in told.items():
                self.assertIs(type(rings), list)
                self.assertEqual(len(set(rings)), len(rings))
                total = tuple(0 for _ in spots)
                for ring in rings:
                    self.assertTrue(is_ring(drawing, body, ring))
                    total = plus(total, tuple(parity_of(drawing, body, ring, spot) for spot in spots))
                self.assertEqual(total, key)
            self.assertIs(s.is_showing(drawing, body, spots, told), True)
            turned = {key: tuple(rings) for key, rings in reversed(list(told.items()))}
            self.assertIs(s.is_showing(drawing, body, spots, turned), True)
            self.assertIs(s.is_showing(drawing, body, tuple(spots), told), True)

    def test_all_lists_of_rings_are_judged(self):
        dice = random.Random(156)
        for drawing, body in SCENES:
            if len(drawing.blocks) > 5:
                continue
            _, spots = spots_of(dice, drawing, body, 2)
            good = s.showing(drawing, body, spots)
            rings = all_rings(drawing, body)[:6]
            for key in good:
                for size in range(4):
                    for lot in itertools.combinations(rings, size):
                        total = tuple(0 for _ in spots)
                        for ring in lot:
                            total = plus(total, tuple(parity_of(drawing, body, ring, spot) for spot in spots))
                        told = s.is_showing(drawing, body, spots, {**good, key: list(lot)})
                        self.assertIs(told, total == key)

    def test_others_are_none(self):
        spots = [(9, 9), (3, 3)]
        ring = (0, 1, 3, 2)
        self.assertIs(s.is_showing(PEN, (1, 1), spots, {(0, 1): [ring]}), True)
        self.assertIs(s.is_showing(PEN, (1, 1), spots, {(0, 1): (ring,)}), True)
        h.never(self, lambda thing: s.is_showing(PEN, (1, 1), spots, thing), [
            {}, {(0, 1): []}, {(0, 1): [ring, ring, ring]}, {(0, 1): [list(ring)]}, {(False, True): [ring]},
            {(0, True): [ring]}, {(0, 1): [(False, 1, 3, 2)]}, {(0, 1): [(0, 1, 2)]}, {(0, 1): ring}, {(0, 1): {ring: 1}},
            {(0, 1): [ring], (1, 0): [ring]}, {(1, 0): [ring]}, {(0, 1): [ring, None]}, {(0, 1): None}, [(0, 1)], None,
            {(0, 1, 0): [ring]},
        ])
        h.judge_any(self, s.is_showing, PEN, (1, 1), spots)
        h.judge_any(self, s.is_showing, PEN, (1, 1), [])
        self.assertIs(s.is_showing(PEN, (1, 1), [], {}), True)
        self.assertIs(s.is_showing(PEN, (1, 1), [], []), False)

    def test_refused(self):
        good = [PEN, (1, 1), [(9, 9), (3, 3)]]
        h.refuse(self, s.span, FRONT + [SPOTS], good)
        h.refuse(self, s.showing, FRONT + [SPOTS], good)
        h.refuse(self, s.is_showing, FRONT + [SPOTS, ("thing", None, None)], good + [{}])
        for function in (s.span, s.showing):
            h.fails(self, NotFree, function, PEN, (1, 1), [(0, 0)])
            h.fails(self, BadSpots, function, PEN, (1, 1), [(0, 0), None])
        h.fails(self, NotFree, s.is_showing, PEN, (1, 1), [(0, 0)], {})


if __name__ == "__main__":
    unittest.main()
