import random
import unittest

from gapstairs import rooms as r
from gapstairs.drawings import Drawing
from gapstairs.errors import BadDrawing, BadSpot, BadWay
from gapstairs.stairs import ALL
from gapstairs.ways import is_way
from tests import helpers as h

DRAWING = ("drawing", BadDrawing, h.drawing)
SPOT = ("spot", BadSpot, h.pair_of_numbers)
WAY = ("way", BadWay, h.stops)
TWO = Drawing([(0, 0, 2, 3), (4, 1, 5, 6)])


class Rooms(unittest.TestCase):
    def test_room_at_each_size(self):
        dice = random.Random(301)
        for blocks, _ in h.small_scenes(302, 30):
            for _ in range(6):
                spot = (dice.randint(-8, 8), dice.randint(-8, 8))
                told = h.ask(self, r.room, ["drawing", "spot"], [Drawing(blocks), spot])
                wanted = {size for size in h.bodies_to(25) if not h.is_barred(blocks, size, 2 * spot[0], 2 * spot[1])}
                self.assertTrue(h.stairs(told))
                self.assertEqual(h.held_set(told, 25), wanted)

    def test_by_hand(self):
        self.assertEqual(r.room(Drawing([]), (3, -9)), ALL)
        self.assertEqual(r.room(TWO, (5, 0)), ALL)
        self.assertEqual(r.room(TWO, (9, 9)), ALL)
        self.assertEqual(r.room(TWO, (2, 0)), ((2, None), (None, 1)))
        self.assertEqual(r.room(TWO, (-1, -1)), ((1, None), (None, 1)))
        self.assertEqual(r.room(TWO, (0, 0)), ())
        self.assertEqual(r.room(TWO, (1, 2)), ())
        self.assertEqual(r.room(TWO, (4, 0)), ((None, 1),))
        far = 999999999
        self.assertEqual(r.room(Drawing([(far - 1, -far, far, far)]), (-far, 0)), ((2 * far - 1, None),))

    def test_all_that_goes_a_way(self):
        dice = random.Random(303)
        for blocks, _ in h.small_scenes(304, 30):
            way = [(dice.randint(-9, 9), dice.randint(-9, 9))]
            for k in range(dice.randint(0, 5)):
                x, y = way[-1]
                step = dice.choice([-5, -2, -1, 1, 3, 6])
                way.append((x + step, y) if dice.random() < 0.5 else (x, y + step))
            told = h.ask(self, r.stairs_of_way, ["drawing", "way"], [Drawing(blocks), way])
            self.assertTrue(h.stairs(told))
            self.assertEqual(r.stairs_of_way(Drawing(blocks), tuple(way)), told)
            wanted = {size for size in h.bodies_to(20) if is_way(Drawing(blocks), size, way)}
            self.assertEqual(h.held_set(told, 20), wanted)

    def test_ways_by_hand(self):
        self.assertEqual(r.stairs_of_way(TWO, [(2, 0)]), r.room(TWO, (2, 0)))
        self.assertEqual(r.stairs_of_way(TWO, [(2, 0), (2, 6)]), ((2, None),))
        self.assertEqual(r.stairs_of_way(TWO, [(2, 7), (2, 0), (9, 0)]), ((2, 1),))
        self.assertEqual(r.stairs_of_way(TWO, [(-5, 6), (9, 6), (9, -9)]), ALL)
        self.assertEqual(r.stairs_of_way(TWO, [(-5, 1), (9, 1)]), ())
        self.assertEqual(r.stairs_of_way(Drawing([]), [(0, 0), (4, 0), (1, 0)]), ALL)

    def test_refused(self):
        h.refuse(self, r.room, [DRAWING, SPOT], [TWO, (2, 0)])
        h.refuse(self, r.stairs_of_way, [DRAWING, WAY], [TWO, [(2, 0), (2, 6)]])
        for way in ([], (), [(2, 0), (3, 1)], [(2, 0), (2, 0)], [(2, 0), [2, 1]], [(2, True)], {(2, 0): 1}, "way", None):
            h.fails(self, BadWay, r.stairs_of_way, TWO, way)


if __name__ == "__main__":
    unittest.main()
