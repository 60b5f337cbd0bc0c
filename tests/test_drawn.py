import unittest

from gapstairs import drawn as d
from gapstairs.drawings import Drawing
from gapstairs.errors import BadStairs, NotFinite, TooMany
from gapstairs.passages import stairs_between
from gapstairs.rooms import room
from gapstairs.stairs import ALL
from tests import helpers as h

FIVE = tuple((k, 6 - k) for k in range(1, 6))


class Drawn(unittest.TestCase):
    def check(self, stairs):
        told = h.ask(self, d.drawn, ["stairs"], [stairs])
        self.assertTrue(type(told) is tuple and len(told) == 3)
        drawing, one, other = told
        self.assertTrue(h.drawing(drawing) and h.pair_of_numbers(one) and h.pair_of_numbers(other))
        self.assertEqual(stairs_between(drawing, one, other), stairs)
        self.assertEqual(room(drawing, other), ALL)
        size = (stairs[-1][0], stairs[0][1]) if stairs else (1, 1)
        self.assertTrue(h.stairs_has(room(drawing, one), size))
        return told

    def test_heart_every_staircase_of_up_to_four_finite_corners(self):
        many = 0
        for stairs in h.all_stairs(5):
            if len(stairs) <= 4 and not any(None in corner for corner in stairs):
                self.check(stairs)
                many += 1
        self.assertEqual(many, 1 + 25 + 100 + 100 + 25)

    def test_by_walks(self):
        for stairs in h.all_stairs(3) + [((1, 9), (4, 8), (5, 2), (9, 1))]:
            if any(None in corner for corner in stairs):
                continue
            drawing, one, other = d.drawn(stairs)
            for size in h.bodies_to(10 if len(stairs) == 4 else 4):
                flood = h.Flood(drawing.blocks, size, [one, other])
                self.assertIs(flood.share(one, other), h.stairs_has(stairs, size))

    def test_large_numbers(self):
        far = 999999999
        for stairs in (((far, far),), ((1, far), (2, far - 1), (far - 1, 2), (far, 1)), ((1, far),), ((far, 1),)):
            self.check(stairs)

    def test_refused(self):
        def judge(thing):
            return h.stairs(thing)
        for value in h.any_values():
            if not judge(value):
                h.fails(self, BadStairs, d.drawn, value)
        for stairs in (((None, None),), ((1, None), (2, 2)), ((1, 2), (None, 1)), ((None, 1),)):
            h.fails(self, NotFinite, d.drawn, stairs)
        self.assertEqual(h.fails(self, TooMany, d.drawn, FIVE).most, 4)
        h.fails(self, NotFinite, d.drawn, ((1, None),) + FIVE[1:])
        h.fails(self, BadStairs, d.drawn, FIVE[::-1])
        self.check(FIVE[1:])
        self.assertEqual(stairs_between(*d.drawn(())), ())
        self.assertLessEqual(len(d.drawn(FIVE[:4])[0]), 12)
        self.assertIs(type(d.drawn(())[0]), Drawing)


if __name__ == "__main__":
    unittest.main()
