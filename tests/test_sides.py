import itertools
import random
import unittest

from gapstairs import sides as s
from gapstairs.chambers import clusters, way_between
from gapstairs.drawings import Drawing
from gapstairs.errors import BadBody, BadDrawing, BadSpot, BadWay, NotFree
from gapstairs.marks import heart, mark
from gapstairs.nears import near_pairs
from gapstairs.ways import is_way
from tests import helpers as h

FRONT = [("drawing", BadDrawing, h.drawing), ("body", BadBody, h.body)]
ENDS = [("one", BadSpot, h.pair_of_numbers), ("other", BadSpot, h.pair_of_numbers)]
PEN = Drawing(h.pen(0, 0, 7, 6))
SCENES = [(Drawing(blocks), body) for blocks, body in h.small_scenes(141, 40, 6)]
ROUND = [(-9, -9), (9, -9), (9, 9), (-9, 9), (-9, -9)]


def agrees(drawing, body, one, other, dealt):
    for i, j in near_pairs(drawing, body):
        unlike = mark(drawing, body, one, i, j) != mark(drawing, body, other, i, j)
        if (dealt[i] != dealt[j]) != unlike:
            return False
    return True


def counted(drawing, body, way):
    found = []
    for i in range(len(drawing.blocks)):
        x, y = heart(drawing, body, i)
        many = 0
        for (a, b), (c, d) in zip(way, way[1:]):
            low, high = sorted((b, d))
            many += a == c and 2 * a < x and 2 * low < y <= 2 * high
        found.append(many % 2)
    return tuple(found)


def free_pairs(dice, drawing, body, many):
    flood = h.Flood(drawing.blocks, body)
    closed = [spot for spot in flood.spots() if flood.home[spot] != flood.outer()]
    spots = dice.sample(flood.spots(), min(many, len(flood.spots()))) + dice.sample(closed, min(many, len(closed)))
    return [(flood, one, other) for one, other in itertools.product(spots, repeat=2)]


class Sides(unittest.TestCase):
    def test_heart_sides_exactly_if_there_is_a_way(self):
        dice = random.Random(142)
        for drawing, body in SCENES:
            for flood, one, other in free_pairs(dice, drawing, body, 5):
                told = s.sides(drawing, body, one, other)
                if not flood.share(one, other):
                    self.assertIsNone(told)
                    continue
                self.assertIs(type(told), tuple)
                self.assertTrue(all(h.number(side) for side in told))
                self.assertTrue(agrees(drawing, body, one, other, told))
                for piece in clusters(drawing, body):
                    self.assertEqual(told[piece[0]], 0)
                self.assertIs(s.are_sides(drawing, body, one, other, told), True)
                along = s.sides_along(drawing, body, way_between(drawing, body, one, other))
                self.assertIs(s.are_sides(drawing, body, one, other, along), True)

    def test_all_sides_are_judged(self):
        dice = random.Random(143)
        for drawing, body in SCENES:
            many = len(drawing.blocks)
            if many > 6:
                continue
            pieces = clusters(drawing, body)
            for _, one, other in free_pairs(dice, drawing, body, 2):
                good = []
                for dealt in itertools.product((0, 1), repeat=many):
                    wanted = agrees(drawing, body, one, other, dealt)
                    self.assertIs(s.are_sides(drawing, body, one, other, dealt), wanted)
                    if wanted:
                        good.append(dealt)
                # They differ on whole pieces.
                self.assertIn(len(good), (0, 2 ** len(pieces)))

    def test_any_value(self):
        good = s.sides(PEN, (1, 1), (3, 3), (2, 3))
        self.assertEqual(good, (0, 0, 0, 0))
        self.assertEqual(s.sides(PEN, (1, 1), (3, 3), (2, 2)), (0, 0, 0, 1))
        h.judge_any(self, s.are_sides, PEN, (1, 1), (3, 3), (2, 3))
        h.never(self, lambda thing: s.are_sides(PEN, (1, 1), (3, 3), (2, 3), thing), [
            [0, 0, 0, 0], (False, 0, 0, 0), (0, 0, 0), (0, 0, 0, 0, 0), (0, 0, 0, 2), (0, 0, 0, None), (), None, (True,) * 4,
            (2, 2, 2, 2), (-1, -1, -1, -1),
        ])
        self.assertIs(s.are_sides(PEN, (1, 1), (3, 3), (2, 3), (1, 1, 1, 1)), True)
        self.assertEqual(s.sides(Drawing([]), (1, 1), (3, 3), (2, 3)), ())
        self.assertIs(s.are_sides(Drawing([]), (1, 1), (3, 3), (2, 3), ()), True)
        self.assertIs(s.are_sides(Drawing([]), (1, 1), (3, 3), (2, 3), []), False)

    def test_refused(self):
        good = [PEN, (1, 1), (3, 3), (2, 2)]
        h.refuse(self, s.sides, FRONT + ENDS, good)
        h.refuse(self, s.are_sides, FRONT + ENDS + [("thing", None, None)], good + [None])
        for one, other in (((0, 0), (9, 9)), ((9, 9), (0, 0))):
            h.fails(self, NotFree, s.sides, PEN, (1, 1), one, other)
            h.fails(self, NotFree, s.are_sides, PEN, (1, 1), one, other, (0, 0, 0, 0))
        h.fails(self, BadSpot, s.sides, PEN, (1, 1), (0, 0), (0, True))


def random_way(dice, drawing, body, closed):
    """A way of the body with many moves; back to its beginning if asked for."""
    flood = h.Flood(drawing.blocks, body)
    home = dice.choice(sorted(set(flood.home.values())))
    spots = [spot for spot in flood.spots() if flood.home[spot] == home]
    stops = [dice.choice(spots) for _ in range(4)]
    if closed:
        stops.append(stops[0])
    way = [stops[0]]
    for stop in stops[1:]:
        if stop != way[-1]:
            way = way + way_between(drawing, body, way[-1], stop)[1:]
    return way


class Along(unittest.TestCase):
    def test_counted_on_ways(self):
        dice = random.Random(144)
        for drawing, body in SCENES:
            for closed in (False, True):
                for _ in range(6):
                    way = random_way(dice, drawing, body, closed)
                    self.assertTrue(is_way(drawing, body, way))
                    told = h.ask(self, s.sides_along, ["drawing", "body", "way"], [drawing, body, way])
                    self.assertTrue(h.same(told, counted(drawing, body, way)))
                    self.assertTrue(h.same(s.sides_along(drawing, body, tuple(way)), told))
                    self.assertIs(s.are_sides(drawing, body, way[0], way[-1], told), True)

    def test_gone_round(self):
        dice = random.Random(145)
        some = 0
        for drawing, body in SCENES:
            for _ in range(6):
                way = random_way(dice, drawing, body, True)
                told = h.ask(self, s.gone_round, ["drawing", "body", "way"], [drawing, body, way])
                along = counted(drawing, body, way)
                pieces = clusters(drawing, body)
                for piece in pieces:
                    self.assertEqual(len({along[i] for i in piece}), 1)
                self.assertTrue(h.same(told, [piece for piece in pieces if along[piece[0]]]))
                some += told != []
        self.assertGreater(some, 10)

    def test_by_hand(self):
        two = Drawing([(0, 0, 1, 1), (4, 4, 5, 5), (20, 20, 21, 21)])
        self.assertEqual(s.sides_along(two, (2, 2), ROUND), (1, 1, 0))
        self.assertEqual(s.gone_round(two, (2, 2), ROUND), [(0,), (1,)])
        self.assertEqual(s.gone_round(two, (4, 4), ROUND), [(0, 1)])
        self.assertEqual(s.gone_round(two, (2, 2), ROUND + ROUND[1:]), [])
        self.assertEqual(s.gone_round(two, (2, 2), [(9, 9)]), [])
        self.assertEqual(s.sides_along(Drawing([]), (2, 2), ROUND), ())
        # The lower end does not count, the higher one does: the heart (0, 0) of a body of (1, 1).
        one = Drawing([(0, 0, 1, 1)])
        self.assertEqual(s.sides_along(one, (1, 1), [(-3, -2), (-3, 0)]), (1,))
        self.assertEqual(s.sides_along(one, (1, 1), [(-3, 2), (-3, 0)]), (0,))
        self.assertEqual(s.sides_along(one, (1, 1), [(3, -2), (3, 2)]), (0,))

    def test_refused(self):
        two = Drawing([(0, 0, 1, 1), (4, 4, 5, 5)])
        good = [two, (2, 2), ROUND]
        judge = lambda thing: is_way(two, (2, 2), thing)
        closed = lambda thing: is_way(two, (2, 2), thing) and thing[0] == thing[-1]
        h.refuse(self, s.sides_along, FRONT + [("way", BadWay, judge)], good)
        h.refuse(self, s.gone_round, FRONT + [("way", BadWay, closed)], good)
        h.fails(self, BadWay, s.gone_round, two, (2, 2), ROUND[:-1])
        h.fails(self, BadWay, s.sides_along, two, (2, 2), [(0, 0)])
        h.fails(self, BadWay, s.sides_along, two, (2, 2), [])


if __name__ == "__main__":
    unittest.main()
