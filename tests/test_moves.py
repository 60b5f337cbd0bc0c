import random
import unittest

from gapstairs import moves as m
from gapstairs.drawings import Drawing
from gapstairs.errors import BadBody, BadDrawing, BadMost, BadOther, BadSpot
from gapstairs.fits import fits
from gapstairs.lanes import crossing, lanes, on_lane
from gapstairs.ways import is_clear, is_way
from tests import helpers as h

FRONT = [
    ("drawing", BadDrawing, h.drawing), ("body", BadBody, h.body), ("one", BadSpot, h.pair_of_numbers),
    ("other", BadSpot, h.pair_of_numbers),
]
MOST = ("most", BadMost, h.from_zero)
TRAP = Drawing([(0, 0, 12, 1), (0, 9, 12, 10), (0, 0, 1, 10), (11, 0, 12, 6), (4, 3, 6, 9), (8, 1, 9, 5)])


def scenes(seed, rounds=40):
    dice = random.Random(seed)
    found = [(TRAP, (1, 1), (1, 1), (14, 7)), (TRAP, (2, 2), (1, 1), (14, 7)), (TRAP, (2, 1), (6, 3), (1, 7))]
    for drawing, one, other in h.two_spots(seed, rounds):
        found.append((drawing, (dice.randint(1, 4), dice.randint(1, 4)), one, other))
        found.append((drawing, (1, 1), one, other))
    return found


def check_heights(drawing, body, one, other, most, thing):
    """Whether a dict with the right keys is heights, looked at pair by pair."""
    every = lanes(drawing, body, [one, other])
    good = all(thing[lane] >= 0 for lane in every)
    good = good and all(thing[lane] <= 1 for lane in every if on_lane(lane, one))
    good = good and all(thing[lane] > most for lane in every if on_lane(lane, other))
    return good and all(
        abs(thing[lane] - thing[there]) <= 1 for lane in every for there in every if crossing(lane, there) is not None)


class Moves(unittest.TestCase):
    def test_fewest_by_walks_over_all_spots(self):
        told = {}
        for drawing, body, one, other in scenes(371):
            found = h.Flood(drawing.blocks, body, [one, other]).moves_from(one)
            number = m.fewest_moves(drawing, body, one, other)
            self.assertTrue(h.same(number, found.get(other)), (drawing.blocks, body, one, other))
            told[number] = told.get(number, 0) + 1
            way = h.ask(self, m.short_way, ["drawing", "body", "one", "other"], [drawing, body, one, other])
            if number is None:
                self.assertIsNone(way)
                continue
            self.assertTrue(is_way(drawing, body, way) and way[0] == one and way[-1] == other)
            self.assertEqual(len(way), number + 1)
            self.assertIs(type(way), list)
            level = [a[1] == b[1] for a, b in zip(way, way[1:])]
            self.assertTrue(all(a != b for a, b in zip(level, level[1:])))
        self.assertTrue({None, 0, 1, 2, 3, 4, 5} <= set(told), told)

    def test_heart_a_way_or_heights(self):
        told = {True: 0, False: 0}
        for drawing, body, one, other in scenes(372, 25):
            if one == other:
                continue
            number = m.fewest_moves(drawing, body, one, other)
            for most in (0, 1, 2, 3, 5, 999999999):
                heights = h.ask(
                    self, m.heights, ["drawing", "body", "one", "other", "most"], [drawing, body, one, other, most])
                gets = number is not None and number <= most
                told[gets] += 1
                self.assertIs(heights is None, gets)
                if heights is None:
                    continue
                self.assertEqual(list(heights), lanes(drawing, body, [one, other]))
                self.assertTrue(check_heights(drawing, body, one, other, most, heights))
                self.assertIs(m.are_heights(drawing, body, one, other, most, heights), True)
                turned = dict(reversed(list(heights.items())))
                self.assertIs(m.are_heights(drawing, body, one, other, most, turned), True)
        self.assertGreater(min(told.values()), 60)

    def test_all_heights_are_judged(self):
        dice = random.Random(373)
        told = {True: 0, False: 0}
        for drawing, body, one, other in scenes(374, 20):
            if one == other:
                continue
            every = lanes(drawing, body, [one, other])
            number = m.fewest_moves(drawing, body, one, other)
            for most in (0, 1, 2):
                if number is not None and number <= most:
                    # Where there is a way nothing can be heights.
                    first = {lane: dice.randint(0, most + 2) for lane in every}
                else:
                    first = m.heights(drawing, body, one, other, most)
                for down in (-3, -2, -1, 1):
                    thing = {lane: first[lane] + down for lane in every}
                    wanted = check_heights(drawing, body, one, other, most, thing)
                    self.assertIs(m.are_heights(drawing, body, one, other, most, thing), wanted)
                for _ in range(12):
                    thing = dict(first)
                    for lane in dice.sample(every, dice.randint(0, min(3, len(every)))):
                        thing[lane] += dice.choice([-2, -1, 1, 1])
                    wanted = check_heights(drawing, body, one, other, most, thing)
                    self.assertIs(m.are_heights(drawing, body, one, other, most, thing), wanted)
                    told[wanted] += 1
        self.assertGreater(min(told.values()), 100)

    def test_facts(self):
        dice = random.Random(375)
        for drawing, body, one, other in scenes(376, 20):
            number = m.fewest_moves(drawing, body, one, other)
            self.assertEqual(m.fewest_moves(drawing, body, other, one), number)
            self.assertIs(number == 1, one != other and is_clear(drawing, body, one, other))
            third = (dice.randint(-6, 9), dice.randint(-6, 9))
            parts = [m.fewest_moves(drawing, body, one, third), m.fewest_moves(drawing, body, third, other)]
            if None not in parts:
                self.assertLessEqual(number, sum(parts))
            self.assertIs(number == 0, one == other and fits(drawing, body, one))

    def test_edges(self):
        none = Drawing([])
        self.assertEqual(m.fewest_moves(none, (5, 5), (0, 0), (0, 0)), 0)
        self.assertEqual(m.short_way(none, (5, 5), (0, 0), (0, 0)), [(0, 0)])
        self.assertEqual(m.fewest_moves(none, (5, 5), (0, 0), (7, 0)), 1)
        self.assertEqual(m.fewest_moves(none, (5, 5), (0, 0), (7, 1)), 2)
        self.assertIsNone(m.fewest_moves(TRAP, (1, 1), (0, 0), (0, 0)))
        self.assertIsNone(m.short_way(TRAP, (1, 1), (0, 0), (0, 0)))
        self.assertEqual(m.short_way(TRAP, (1, 1), (1, 1), (1, 1)), [(1, 1)])
        self.assertIsNotNone(m.heights(TRAP, (1, 1), (0, 0), (20, 20), 999999999))
        self.assertIsNotNone(m.heights(TRAP, (1, 1), (20, 20), (0, 0), 999999999))
        self.assertEqual(m.heights(none, (1, 1), (0, 0), (0, 5), 0), {
            ("upright", 0, None, None): 1, ("level", 0, None, None): 1, ("level", 5, None, None): 2})
        far = 999999999
        self.assertEqual(m.fewest_moves(TRAP, (1, 1), (-far, 5), (far, 5)), 3)
        twelve = Drawing(h.lattice(6, 2))
        self.assertIsNone(m.fewest_moves(twelve, (1, 1), (1, 1), (4, 4)))
        self.assertEqual(m.fewest_moves(twelve, (1, 1), (1, 1), (2, 2)), 2)

    def test_any_value(self):
        front = (Drawing([]), (1, 1), (0, 0), (0, 5), 0)
        good = m.heights(*front)
        first, second, third = good
        self.assertIs(m.are_heights(*front, good), True)
        h.never(self, lambda thing: m.are_heights(*front, thing), [
            {**good, third: True}, {**good, first: -1}, {**good, first: None}, {first: 1, second: 1}, list(good), None,
            {**good, ("level", 9, None, None): 1}, {("upright", False, None, None): 1, second: 1, third: 2},
            {first: 1, ("level", False, None, None): 1, third: 2}, {**good, second: 1.5}, {**good, second: "1"},
            {first: 1, second: 1, ("level", 5, None, 9): 2}, {first: 2, second: 1, third: 2}, {first: 0, second: 1, third: 2},
            {first: 1, second: 2, third: 2}, {first: 1, second: 1, third: 3}, {first: 1, second: 1, third: 0},
        ])
        self.assertIs(m.are_heights(*front, {first: 0, second: 0, third: 1}), False)
        self.assertIs(m.are_heights(*front, {first: 1, second: 0, third: 1}), True)
        self.assertIs(m.are_heights(Drawing([]), (1, 1), (0, 0), (3, 5), 1, {}), False)
        h.judge_any(self, m.are_heights, *front)

    def test_refused(self):
        good = [TRAP, (1, 1), (1, 1), (14, 7)]
        h.refuse(self, m.fewest_moves, FRONT, good)
        h.refuse(self, m.short_way, FRONT, good)
        h.refuse(self, m.heights, FRONT + [MOST], good + [2])
        h.refuse(self, m.are_heights, FRONT + [MOST, ("thing", None, None)], good + [2, None])
        for most in (0, None, True, -1):
            h.fails(self, BadOther, m.heights, TRAP, (1, 1), (1, 1), (1, 1), most)
            h.fails(self, BadOther, m.are_heights, TRAP, (1, 1), (1, 1), (1, 1), most, {})
        h.fails(self, BadSpot, m.heights, TRAP, (1, 1), (1, True), (1, True), 0)
        h.fails(self, BadMost, m.heights, TRAP, (1, 1), (0, 0), (1, 1), -1)


if __name__ == "__main__":
    unittest.main()
