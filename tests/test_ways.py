import itertools
import random
import unittest

from gapstairs import ways as w
from gapstairs.drawings import Drawing
from gapstairs.errors import BadBody, BadDrawing, BadSpot, BadWay, NotJoined
from tests import helpers as h

FRONT = [("drawing", BadDrawing, h.drawing), ("body", BadBody, h.body)]
ENDS = [("one", BadSpot, h.pair_of_numbers), ("other", BadSpot, h.pair_of_numbers)]
ONE = Drawing([(0, 0, 4, 4)])


def is_stops(thing):
    if not h.list_of(h.pair_of_numbers)(thing) or len(thing) == 0:
        return False
    return all((a[0] == b[0]) + (a[1] == b[1]) == 1 for a, b in zip(thing, thing[1:]))


def places_between(one, other):
    """All places of the line, in halves, both ends with them."""
    if one[0] == other[0]:
        low, high = sorted((one[1], other[1]))
        return [(2 * one[0], y) for y in range(2 * low, 2 * high + 1)]
    left, right = sorted((one[0], other[0]))
    return [(x, 2 * one[1]) for x in range(2 * left, 2 * right + 1)]


def clear(blocks, body, one, other):
    if one[0] != other[0] and one[1] != other[1]:
        return False
    return not any(h.is_barred(blocks, body, *place) for place in places_between(one, other))


class Clear(unittest.TestCase):
    def test_place_by_place(self):
        dice = random.Random(81)
        for _ in range(25):
            blocks = h.random_blocks(dice, dice.randint(0, 5), 4, 3)
            body = (dice.randint(1, 3), dice.randint(1, 3))
            for _ in range(300):
                one = (dice.randint(-7, 7), dice.randint(-7, 7))
                other = dice.choice([(one[0], dice.randint(-7, 7)), (dice.randint(-7, 7), one[1]), one, (0, 0)])
                told = w.is_clear(Drawing(blocks), body, one, other)
                self.assertIs(told, clear(blocks, body, one, other), (blocks, body, one, other))

    def test_along_a_block_and_through(self):
        self.assertIs(w.is_clear(ONE, (2, 3), (-2, -9), (-2, 9)), True)
        self.assertIs(w.is_clear(ONE, (2, 3), (-1, -9), (-1, 9)), False)
        self.assertIs(w.is_clear(ONE, (2, 3), (-999999999, 4), (999999999, 4)), True)
        self.assertIs(w.is_clear(ONE, (2, 3), (-999999999, 3), (999999999, 3)), False)
        self.assertIs(w.is_clear(ONE, (2, 3), (4, -3), (4, -3)), True)
        self.assertIs(w.is_clear(ONE, (2, 3), (3, 3), (3, 3)), False)
        self.assertIs(w.is_clear(ONE, (2, 3), (9, 9), (10, 10)), False)
        # Two blocks that touch leave a line between them free, but a body of 1 does not fit there.
        touching = Drawing([(0, 0, 2, 2), (2, 2, 4, 4)])
        self.assertIs(w.is_clear(touching, (1, 1), (2, 1), (1, 1)), False)
        self.assertIs(w.is_clear(touching, (2, 2), (0, 2), (0, 9)), True)

    def test_refused(self):
        h.refuse(self, w.is_clear, FRONT + ENDS, [ONE, (1, 2), (9, 9), (9, -9)])


class Ways(unittest.TestCase):
    def test_all_short_lists(self):
        blocks = [(0, 0, 1, 1), (2, 1, 3, 3)]
        spots = list(itertools.product(range(-1, 4), repeat=2))
        for body in ((1, 1), (2, 1)):
            for one in spots:
                fit = clear(blocks, body, one, one)
                self.assertIs(w.is_way(Drawing(blocks), body, [one]), fit)
                for other in spots:
                    wanted = fit and one != other and clear(blocks, body, one, other)
                    self.assertIs(w.is_way(Drawing(blocks), body, [one, other]), wanted)
        dice = random.Random(82)
        for _ in range(2000):
            way = [dice.choice(spots)]
            for _ in range(dice.randint(0, 3)):
                x, y = way[-1]
                way.append(dice.choice([(x, dice.randint(-1, 3)), (dice.randint(-1, 3), y)]))
            wanted = clear(blocks, (1, 1), way[0], way[0]) and all(
                a != b and clear(blocks, (1, 1), a, b) for a, b in zip(way, way[1:])
            )
            self.assertIs(w.is_way(Drawing(blocks), (1, 1), way), wanted)
            self.assertIs(w.is_way(Drawing(blocks), (1, 1), tuple(way)), wanted)

    def test_any_value(self):
        h.judge_any(self, w.is_way, ONE, (1, 1))
        h.never(self, lambda thing: w.is_way(Drawing([]), (1, 1), thing), [
            [], (), [(0, 0), (0, 0)], [(0, 0), (1, 1)], [(0, 0), (0, True)], [(0, False)], [[0, 0]], {(0, 0): 1},
            [(0, 0), None], (0, 0), None, "ab", [(0, 0), (0, 1), (0, 1)],
        ])
        h.refuse(self, w.is_way, FRONT + [("thing", None, None)], [ONE, (1, 1), [(9, 9)]])

    def test_lesser_bodies_go_the_same_way(self):
        dice = random.Random(83)
        for _ in range(400):
            drawing = Drawing(h.random_blocks(dice, 3, 4, 3))
            a, b = dice.randint(1, 4), dice.randint(1, 4)
            way = [(dice.randint(-8, 8), dice.randint(-8, 8))]
            for _ in range(2):
                x, y = way[-1]
                way.append(dice.choice([(x, y + dice.randint(1, 5)), (x - dice.randint(1, 5), y)]))
            if w.is_way(drawing, (a, b), way):
                less = (dice.randint(1, a), dice.randint(1, b))
                p, q = dice.randint(0, a - less[0]), dice.randint(0, b - less[1])
                self.assertTrue(w.is_way(drawing, less, [(x + p, y + q) for x, y in way]))


class Lists(unittest.TestCase):
    def random_stops(self, dice):
        way = [(dice.randint(-2, 2), dice.randint(-2, 2))]
        for _ in range(dice.randint(0, 6)):
            x, y = way[-1]
            step = dice.choice([-2, -1, 1, 2])
            way.append(dice.choice([(x + step, y), (x, y + step)]))
        return way

    def test_straightened(self):
        dice = random.Random(84)
        for _ in range(600):
            way = self.random_stops(dice)
            kept = []
            for k, spot in enumerate(way):
                ahead = places_between(way[k - 1], way[k + 1]) if 0 < k < len(way) - 1 and (
                    way[k - 1][0] == way[k + 1][0] or way[k - 1][1] == way[k + 1][1]) else []
                if (2 * spot[0], 2 * spot[1]) not in ahead[1:-1]:
                    kept.append(spot)
            told = h.ask(self, w.straightened, ["way"], [way])
            self.assertTrue(h.same(told, kept), (way, told, kept))
            self.assertTrue(h.same(w.straightened(tuple(way)), kept))
            for body in ((1, 1), (2, 2)):
                self.assertIs(w.is_way(ONE, body, told), w.is_way(ONE, body, way))

    def test_by_hand(self):
        self.assertEqual(w.straightened([(0, 0), (0, 1), (0, 2), (0, 5), (3, 5)]), [(0, 0), (0, 5), (3, 5)])
        self.assertEqual(w.straightened([(0, 0), (0, 3), (0, 1)]), [(0, 0), (0, 3), (0, 1)])
        self.assertEqual(w.straightened([(0, 0), (0, 3), (0, 0)]), [(0, 0), (0, 3), (0, 0)])
        self.assertEqual(w.straightened([(7, 7)]), [(7, 7)])

    def test_turned_and_joined(self):
        dice = random.Random(85)
        for _ in range(300):
            one, other = self.random_stops(dice), self.random_stops(dice)
            self.assertTrue(h.same(h.ask(self, w.turned_way, ["way"], [one]), one[::-1]))
            self.assertTrue(h.same(w.turned_way(tuple(one)), one[::-1]))
            self.assertIs(w.is_way(ONE, (2, 1), one[::-1]), w.is_way(ONE, (2, 1), one))
            if one[-1] != other[0]:
                h.fails(self, NotJoined, w.joined_ways, one, other)
            by = (one[-1][0] - other[0][0], one[-1][1] - other[0][1])
            other = [(x + by[0], y + by[1]) for x, y in other]
            told = h.ask(self, w.joined_ways, ["first", "second"], [one, other])
            self.assertTrue(h.same(told, one + other[1:]))
            self.assertTrue(h.same(w.joined_ways(tuple(one), tuple(other)), one + other[1:]))
            both = w.is_way(ONE, (2, 1), one) and w.is_way(ONE, (2, 1), other)
            self.assertIs(w.is_way(ONE, (2, 1), told), both)

    def test_refused(self):
        way = [(0, 0), (0, 5)]
        for function in (w.straightened, w.turned_way):
            h.refuse(self, function, [("way", BadWay, is_stops)], [way])
        params = [("first", BadWay, is_stops), ("second", BadWay, is_stops)]
        h.refuse(self, w.joined_ways, params[:1] + [("second", None, None)], [way, [(0, 5), (1, 5)]])
        for value in h.any_values():
            if not is_stops(value):
                h.fails(self, BadWay, w.joined_ways, way, value)
        for wrong in ([(0, 0), (0, 0)], [(0, 0), (1, 1)], [], (), [(0, True)], [(0, 0), [0, 1]]):
            h.fails(self, BadWay, w.straightened, wrong)
            h.fails(self, BadWay, w.joined_ways, wrong, way)
            h.fails(self, BadWay, w.joined_ways, way, wrong)


if __name__ == "__main__":
    unittest.main()
