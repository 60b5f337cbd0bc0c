import random
import unittest

from gapstairs import stairs as s
from gapstairs.errors import BadBodies, BadBody, BadBy, BadCorner, BadCorners, BadLeast, BadStairs
from gapstairs.stairs import ALL
from tests import helpers as h

SMALL = h.all_stairs(3)
MOST = 5
STAIRS = ("stairs", BadStairs, h.stairs)
TWO = [("one", BadStairs, h.stairs), ("other", BadStairs, h.stairs)]
BIG = ((1, None), (5, 999999999), (70, 8), (None, 3))


class Judging(unittest.TestCase):
    def test_any_value(self):
        for value in h.any_values():
            self.assertIs(s.is_stairs(value), h.stairs(value), value)

    def test_edges(self):
        for steps in SMALL + [(), ALL, BIG, ((1, 1),)]:
            self.assertIs(s.is_stairs(steps), True)
        h.never(self, s.is_stairs, [
            [(1, 1)], ((1, 1), (1, 1)), ((1, 2), (2, 2)), ((1, 2), (1, 1)), ((None, 2), (None, 1)),
            ((None, 3), (5, 2)), ((1, 3), (2, None)), ((True, 1),), ((1, 2), (2, True)), ((0, 1),),
            ((1, None), (2, None)), ([1, 1],), (1, 1), ALL[0], ((None, None), (None, None)),
        ])

    def test_all_is_all(self):
        self.assertEqual(ALL, ((None, None),))


class Making(unittest.TestCase):
    def test_staircase_of_any_corners(self):
        dice = random.Random(11)
        items = [1, 2, 3, 4, None]
        for _ in range(400):
            corners = [(dice.choice(items), dice.choice(items)) for _ in range(dice.randint(0, 6))]
            made = h.ask(self, s.staircase, ["corners"], [corners])
            self.assertTrue(h.stairs(made))
            self.assertEqual(h.held_set(made, 6), h.held_set(corners, 6))
            self.assertTrue(h.same(s.staircase(tuple(corners)), made))

    def test_equal_and_lesser_corners(self):
        self.assertEqual(s.staircase([(2, 2), (2, 2), (1, 2), (2, 1), (None, 1), (1, 1)]), ((2, 2), (None, 1)))
        self.assertEqual(s.staircase([]), ())
        self.assertEqual(s.staircase([(None, None), (7, None)]), ALL)

    def test_refused(self):
        h.refuse(self, s.staircase, [("corners", BadCorners, h.list_of(h.corner))], [[(3, None)]])
        for wrong in ([(1, 1), (1, True)], ((1, 1), [1, 1]), {(1, 1): 1}, [None], "", (1, 1)):
            h.fails(self, BadCorners, s.staircase, wrong)

    def test_barred(self):
        dice = random.Random(12)
        for _ in range(300):
            bodies = [(dice.randint(1, 4), dice.randint(1, 4)) for _ in range(dice.randint(0, 5))]
            made = h.ask(self, s.barred, ["bodies"], [bodies])
            self.assertTrue(h.stairs(made), made)
            wanted = {
                one for one in h.bodies_to(6)
                if not any(one[0] >= other[0] and one[1] >= other[1] for other in bodies)
            }
            self.assertEqual(h.held_set(made, 6), wanted)
            self.assertEqual(s.barred(tuple(bodies)), made)
        self.assertEqual(s.barred([]), ALL)
        self.assertEqual(s.barred([(1, 1)]), ())
        self.assertEqual(s.barred([(3, 2), (3, 2), (4, 4)]), ((2, None), (None, 1)))

    def test_barred_refused(self):
        h.refuse(self, s.barred, [("bodies", BadBodies, h.list_of(h.body))], [[(1, 2)]])
        for wrong in ([(1, None)], [(0, 1)], {(1, 1): 1}, [[1, 1]], [(1, True)]):
            h.fails(self, BadBodies, s.barred, wrong)


class Holding(unittest.TestCase):
    def test_held(self):
        for steps in SMALL:
            for body in h.bodies_to(5):
                self.assertIs(s.held(steps, body), h.stairs_has(steps, body))

    def test_held_whole(self):
        items = [1, 2, 3, 4, None]
        for steps in SMALL:
            all_held = h.held_set(steps, 9)
            for corner in [(a, b) for a in items for b in items]:
                # Beyond the greatest number of the steps a body of 9 stands for all.
                wanted = h.held_set([corner], 9) <= all_held
                self.assertIs(s.held_whole(steps, corner), wanted, (steps, corner))

    def test_refused(self):
        h.refuse(self, s.held, [STAIRS, ("body", BadBody, h.body)], [BIG, (6, 8)])
        h.refuse(self, s.held_whole, [STAIRS, ("corner", BadCorner, h.corner)], [BIG, (None, 8)])


class TwoStaircases(unittest.TestCase):
    def test_joined_met_inside_witness(self):
        held = {steps: h.held_set(steps, MOST) for steps in SMALL}
        for one in SMALL:
            for other in SMALL:
                joined = s.joined(one, other)
                met = s.met(one, other)
                self.assertTrue(h.stairs(joined) and h.stairs(met))
                self.assertEqual(h.held_set(joined, MOST), held[one] | held[other])
                self.assertEqual(h.held_set(met, MOST), held[one] & held[other])
                self.assertIs(s.inside(one, other), held[one] <= held[other])
                first = min([n for n in h.least_not(lambda b: b in held[other], MOST) if n in held[one]], default=None)
                self.assertEqual(s.witness(one, other), first)

    def test_random_wide_ones(self):
        dice = random.Random(13)
        for _ in range(200):
            one = s.staircase([(dice.randint(1, 15), dice.randint(1, 15)) for _ in range(6)])
            other = s.staircase([(dice.randint(1, 15), dice.randint(1, 15)) for _ in range(6)])
            self.assertEqual(h.held_set(s.met(one, other), 16), h.held_set(one, 16) & h.held_set(other, 16))
            self.assertTrue(h.stairs(s.met(one, other)))
            self.assertEqual(h.held_set(s.joined(one, other), 16), h.held_set(one, 16) | h.held_set(other, 16))

    def test_endless_and_nothing(self):
        for steps in SMALL + [BIG]:
            self.assertEqual(s.joined(steps, ()), steps)
            self.assertEqual(s.met(steps, ALL), steps)
            self.assertEqual(s.joined(ALL, steps), ALL)
            self.assertEqual(s.met((), steps), ())
            self.assertIs(s.inside((), steps), True)
            self.assertIs(s.inside(steps, ALL), True)

    def test_refused(self):
        for function in (s.joined, s.met, s.inside, s.witness):
            h.refuse(self, function, TWO, [BIG, ((2, 3),)])


class Counting(unittest.TestCase):
    def test_notches(self):
        for steps in SMALL:
            told = h.ask(self, s.notches, ["stairs"], [steps])
            self.assertIs(type(told), list)
            wanted = sorted(h.least_not(lambda one: h.stairs_has(steps, one), 6))
            self.assertEqual(told, wanted)
        self.assertEqual(s.notches(()), [(1, 1)])
        self.assertEqual(s.notches(ALL), [])
        self.assertEqual(s.notches(BIG), [(2, 1000000000), (6, 9), (71, 4)])

    def test_counted(self):
        for steps in SMALL:
            for body in h.bodies_to(5):
                wanted = len(h.held_set(steps, 5) & h.held_set([body], 5))
                self.assertEqual(s.counted(steps, body), wanted)

    def test_too_many_to_go_through(self):
        most = 999999999
        self.assertEqual(s.counted(ALL, (most, most)), most * most)
        self.assertEqual(s.counted(BIG, (most, most)), most + 4 * most + 65 * 8 + (most - 70) * 3)
        self.assertEqual(s.counted(((2, None),), (1, most)), most)

    def test_flipped(self):
        for steps in SMALL:
            told = s.flipped(steps)
            self.assertTrue(h.stairs(told))
            self.assertEqual(h.held_set(told, 5), {(b, a) for a, b in h.held_set(steps, 5)})

    def test_refused(self):
        h.refuse(self, s.notches, [STAIRS], [BIG])
        h.refuse(self, s.flipped, [STAIRS], [BIG])
        h.refuse(self, s.counted, [STAIRS, ("body", BadBody, h.body)], [BIG, (6, 8)])


class Moving(unittest.TestCase):
    def test_moved(self):
        dice = random.Random(14)
        for _ in range(1500):
            steps = dice.choice(SMALL)
            least = (dice.randint(1, 4), dice.randint(1, 4))
            by = (dice.randint(-4, 4), dice.randint(-4, 4))
            told = s.moved(steps, least, by)
            self.assertTrue(h.stairs(told), told)
            for a, b in h.bodies_to(9):
                there = (max(least[0], a + by[0]), max(least[1], b + by[1]))
                self.assertIs(h.stairs_has(told, (a, b)), h.stairs_has(steps, there))

    def test_far(self):
        self.assertEqual(s.moved(((5, 9),), (1, 1), (-999999999, 8)), ((1000000004, 1),))
        self.assertEqual(s.moved(((5, 9),), (1, 1), (5, 0)), ())
        self.assertEqual(s.moved(((5, 9),), (6, 1), (-5, 0)), ())

    def test_refused(self):
        params = [STAIRS, ("least", BadLeast, h.body), ("by", BadBy, h.pair_of_numbers)]
        h.refuse(self, s.moved, params, [BIG, (1, 2), (-3, 0)])


if __name__ == "__main__":
    unittest.main()
