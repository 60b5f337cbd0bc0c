import random
import unittest

from gapstairs import plans
from gapstairs import sorting as s
from gapstairs.cells import fine_cells
from gapstairs.doubts import is_plan
from gapstairs.drawings import Drawing
from gapstairs.errors import BadOrders, BadSpot, NoCase, TooMany
from gapstairs.fits import fits
from gapstairs.runs import run
from tests import feeling as f
from tests import helpers as h
from tests.test_machines import DRAWING
from tests.test_plans import walked

ALL = ((None, None),)
NAMES = ["drawing", "start", "orders"]
BOX = (-9, -9, 9, 9)


def order(thing):
    return type(thing) is tuple and len(thing) == 2 and h.stairs(thing[0]) and f.box(thing[1])


def orders(thing):
    return h.list_of(order)(thing) and len(thing) > 0


def first_box(pairs, body):
    boxes = [box for stairs, box in pairs if h.stairs_has(stairs, body)]
    return boxes[0] if boxes else None


def found_cases(drawing, start, pairs):
    """The cases, every body of each cell looked at; endless cells up to what can tell anything."""
    most = 2 + max([item for stairs, _ in pairs for corner in stairs for item in corner if item is not None] + [1])
    spots = [start] + [spot for _, box in pairs for spot in (box[:2], box[2:])]
    cases = []
    boxes = []
    for (wide, high) in fine_cells(drawing, spots):
        widths = range(wide[0], (wide[1] if wide[1] is not None else max(most, wide[0])) + 1)
        heights = range(high[0], (high[1] if high[1] is not None else max(most, high[0])) + 1)
        for k, (stairs, box) in enumerate(pairs):
            for body in [(a, b) for a in widths for b in heights]:
                held = [h.stairs_has(other, body) for other, _ in pairs[:k + 1]]
                if held[-1] and not any(held[:-1]) and fits(drawing, body, start):
                    cases.append((body, start))
                    boxes.append(box)
                    break
    return cases, ("reach", tuple(boxes))


def random_orders(dice):
    found = []
    for _ in range(dice.randint(1, 3)):
        x, y = dice.randint(-6, 6), dice.randint(-6, 6)
        stairs = dice.choice([h.random_stairs(dice), h.random_stairs(dice), (), ALL])
        found.append((stairs, (x, y, x + dice.randint(0, 5), y + dice.randint(0, 5))))
    return found


class Sorting(unittest.TestCase):
    def test_cases_one_by_one(self):
        dice = random.Random(971)
        told = {}
        for drawing, one, _ in list(h.two_spots(972, 40, 4, 3)) + list(h.two_spots(976, 20, 9, 6)):
            pairs = random_orders(dice)
            cases, aim = found_cases(drawing, one, pairs)
            if len(cases) > 60:
                self.assertEqual(h.fails(self, TooMany, s.sorting_cases, drawing, one, pairs).most, 60)
                told["many"] = True
            elif cases == []:
                h.fails(self, NoCase, s.sorting_cases, drawing, one, pairs)
                told["none"] = True
            else:
                found = h.ask(self, s.sorting_cases, NAMES, [drawing, one, pairs])
                self.assertTrue(h.same(found, (cases, aim)))
                self.assertEqual(s.sorting_cases(drawing, one, tuple(pairs)), found)
                told[len(cases)] = True
        self.assertTrue({"many", "none"} <= set(told) and len(told) > 8, told)

    def test_one_plan_for_all_bodies(self):
        dice = random.Random(973)
        served = 0
        barred = 0
        for drawing, one, _ in h.two_spots(974, 60, 2, 3):
            middle = (dice.randint(1, 4), None)
            pairs = [((middle,), (-30, -30, 30, 30)), (ALL, (one[0] - 9, one[1] - 12, one[0] + 9, one[1] + 12))]
            if dice.random() < 0.6:
                pairs = [(pairs[0][0], (one[0] + dice.randint(1, 3), -30, 30, 30)), (ALL, (-30, -30, one[0] - 1, one[1]))]
            try:
                cases, aim = s.sorting_cases(drawing, one, pairs)
            except (NoCase, TooMany):
                continue
            try:
                course = plans.plan(drawing, cases, aim)
            except TooMany:
                continue
            if course is None:
                barred += 1
                continue
            served += 1
            self.assertIs(is_plan(drawing, cases, aim, course), True)
            # Every body is brought to its box, whatever its size.
            for _ in range(20):
                body = (dice.randint(1, 12), dice.randint(1, 12))
                if fits(drawing, body, one) and first_box(pairs, body) is not None:
                    stand = walked(drawing, (body, one), course, f.SENSES)[-1]
                    box = first_box(pairs, body)
                    self.assertTrue(stand != () and box[0] <= stand[0] <= box[2] and box[1] <= stand[1] <= box[3])
                    told = run(drawing, body, one, plans.program_of(course))
                    self.assertEqual(told, ("ends", stand))
        self.assertTrue(served > 5 and barred > 5, (served, barred))

    def test_by_hand(self):
        # The narrow ones go to the left of the block, the others stay where they are.
        pairs = [(((2, None),), (-9, 0, -3, 9)), (ALL, (-3, 1, -3, 1))]
        cases, aim = s.sorting_cases(f.BLOCK, (-3, 1), pairs)
        self.assertEqual({body for body, _ in cases if body[0] < 3} | {body for body, _ in cases if body[0] >= 3},
                         {body for body, _ in cases})
        self.assertEqual(set(aim[1]), {(-9, 0, -3, 9), (-3, 1, -3, 1)})
        self.assertEqual(plans.least_moves(f.BLOCK, cases, aim), 0)
        # Equal orders: the first one has them all.
        twice = s.sorting_cases(f.BLOCK, (-3, 1), [pairs[0], pairs[0]])
        self.assertEqual(twice, s.sorting_cases(f.BLOCK, (-3, 1), [pairs[0]]))
        self.assertEqual(s.sorting_cases(Drawing([]), (0, 0), [(ALL, (0, 0, 0, 0))]), ([((1, 1), (0, 0))], ("reach", ((0, 0, 0, 0),))))
        h.fails(self, NoCase, s.sorting_cases, f.BLOCK, (1, 1), [(ALL, BOX)])
        h.fails(self, NoCase, s.sorting_cases, f.BLOCK, (-3, 1), [((), BOX)])

    def test_the_limit(self):
        # An order more for each width: as many cases as there are orders.
        pairs = [(((k + 1, None),), (0, 0, 0, 0)) for k in range(61)]
        cases, aim = s.sorting_cases(Drawing([]), (0, 0), pairs[:60])
        self.assertEqual(cases, [((k + 1, 1), (0, 0)) for k in range(60)])
        self.assertEqual(len(aim[1]), 60)
        self.assertEqual(h.fails(self, TooMany, s.sorting_cases, Drawing([]), (0, 0), pairs).most, 60)
        h.fails(self, BadOrders, s.sorting_cases, Drawing([]), (0, 0), pairs + [1])

    def test_large_numbers(self):
        found = 0
        for drawing, one, _ in h.two_spots(975, 12, 1, 3):
            pairs = [(((2, 3),), (0, 0, 1, 1)), (ALL, (-1, -1, 0, 0))]
            big = [(h.huge_stairs(stairs), box) for stairs, box in pairs]
            far, spot = h.huge(drawing, one)
            try:
                cases, aim = s.sorting_cases(far, spot, big)
            except (TooMany, NoCase):
                continue
            found += 1
            self.assertTrue(set(aim[1]) <= {(0, 0, 1, 1), (-1, -1, 0, 0)})
            for body, stand in cases:
                self.assertTrue(stand == spot and fits(far, body, spot))
        self.assertGreater(found, 1)

    def test_wrong_inputs(self):
        params = [DRAWING, ("start", BadSpot, h.pair_of_numbers), ("orders", BadOrders, orders)]
        good = [f.BLOCK, (-3, 1), [(((2, None),), (0, 0, 0, 0))]]
        h.refuse(self, s.sorting_cases, params, good)
        for value in ([], (), [(ALL, [0, 0, 1, 1])], [(list(ALL), BOX)], [[ALL, BOX]], [(ALL, (1, 0, 0, 0))], [(ALL, (0, 1, 0, 0))],
                      [(ALL, (0, 0, 0, True))], [(((True, 1),), BOX)], [(ALL, BOX, 1)], {(ALL, BOX): 1}, (ALL, BOX)):
            h.fails(self, BadOrders, s.sorting_cases, f.BLOCK, (-3, 1), value)
        h.fails(self, BadSpot, s.sorting_cases, f.BLOCK, [1, 1], [])


if __name__ == "__main__":
    unittest.main()
