import itertools
import random
import unittest

from gapstairs import removals as r
from gapstairs.drawings import Drawing, taken
from gapstairs.errors import BadBody, BadDrawing, BadLot, BadMost, BadSpot
from gapstairs.fits import barring
from gapstairs.rings import is_parting
from tests import helpers as h
from tests.test_rings import rounds

FRONT = [
    ("drawing", BadDrawing, h.drawing), ("body", BadBody, h.body), ("one", BadSpot, h.pair_of_numbers),
    ("other", BadSpot, h.pair_of_numbers),
]
MOST = ("most", BadMost, h.from_zero)
NAMES = ["drawing", "body", "one", "other"]
PEN = Drawing(h.pen(0, 0, 7, 6))
NESTED = Drawing(h.pen(0, 0, 14, 14) + h.pen(3, 3, 11, 11))


def all_lots(many, most=99):
    return [lot for size in range(min(many, most) + 1) for lot in itertools.combinations(range(many), size)]


def lots_that_do(drawing, body, one, other):
    """All lots without whose blocks a walk leads from one to other."""
    found = []
    for lot in all_lots(len(drawing)):
        rest = [block for i, block in enumerate(drawing.blocks) if i not in lot]
        if h.Flood(rest, body, [one, other]).share(one, other):
            found.append(lot)
    return found


SHARED = Drawing([
    (0, 0, 1, 12), (1, 0, 12, 1), (1, 11, 12, 12), (11, 1, 12, 11), (1, 3, 8, 4), (1, 8, 8, 9), (7, 4, 8, 8)])


def scenes(seed, rounds_=14):
    dice = random.Random(seed)
    found = [(SHARED, (1, 1), (3, 5), (-3, 4)), (SHARED, (2, 1), (3, 5), (20, 4)), (PEN, (1, 1), (1, 1), (9, 9)), (PEN, (1, 1), (0, 0), (9, 9)), (PEN, (2, 9), (2, 2), (0, 1)),
             (Drawing([]), (1, 1), (0, 0), (4, 4)), (Drawing([(0, 0, 3, 3)]), (1, 1), (1, 1), (1, 1))]
    for drawing, one, other in h.two_spots(seed, rounds_, 5, 3):
        if len(drawing) <= 5:
            found.append((drawing, (dice.randint(1, 5), dice.randint(1, 5)), one, other))
            found.append((drawing, (dice.randint(1, 3), 3), one, (dice.randint(-3, 4), dice.randint(-3, 4))))
    return found


def is_need(drawing, body, one, other, lot, need):
    hits = [(k, i) for k, spot in enumerate((one, other)) for i in barring(drawing, body, spot) if i not in lot]
    if need[0] == "block":
        return need[1:] in hits
    if hits or set(need[1]) & set(lot):
        return False
    # The ring is asked in the drawing of the blocks that are left.
    left = [i for i in range(len(drawing)) if i not in lot]
    ring = tuple(left.index(i) for i in need[1])
    return is_parting(taken(drawing, lot), body, one, other, ring)


def is_table(drawing, body, one, other, most, thing):
    if () not in thing or any(len(lot) > most for lot in thing):
        return False
    for lot, need in thing.items():
        if not is_need(drawing, body, one, other, lot, need):
            return False
        if len(lot) < most:
            more = need[1] if need[0] == "ring" else need[2:]
            if any(tuple(sorted(lot + (i,))) not in thing for i in more):
                return False
    return True


class Lots(unittest.TestCase):
    def test_all_lots(self):
        least = {}
        for drawing, body, one, other in scenes(421):
            good = lots_that_do(drawing, body, one, other)
            for lot in all_lots(len(drawing)):
                self.assertIs(r.is_enough(drawing, body, one, other, lot), lot in good)
            number = r.fewest_taken(drawing, body, one, other)
            self.assertEqual(number, min(len(lot) for lot in good))
            least[number] = least.get(number, 0) + 1
            told = h.ask(self, r.least_lots, NAMES, [drawing, body, one, other])
            wanted = sorted(lot for lot in good if not any(set(less) < set(lot) for less in good))
            self.assertTrue(h.same(told, wanted))
        self.assertTrue({0, 1, 2, 3} <= set(least), least)

    def test_by_hand(self):
        self.assertEqual(r.fewest_taken(PEN, (1, 1), (1, 1), (9, 9)), 1)
        self.assertEqual(r.least_lots(PEN, (1, 1), (1, 1), (9, 9)), [(0,), (1,), (2,), (3,)])
        self.assertEqual(r.least_lots(PEN, (1, 1), (0, 0), (9, 9)), [(0, 1)])
        self.assertEqual(r.least_lots(PEN, (1, 1), (9, 9), (9, 9)), [()])
        self.assertEqual(r.least_lots(Drawing([]), (1, 1), (9, 9), (0, 0)), [()])
        self.assertEqual(r.fewest_taken(NESTED, (1, 1), (5, 5), (20, 20)), 2)
        self.assertEqual(len(r.least_lots(NESTED, (1, 1), (5, 5), (20, 20))), 16)
        heap = Drawing([(-k, -k, k, k) for k in range(1, 13)])
        self.assertEqual(r.least_lots(heap, (1, 1), (0, 0), (20, 20)), [tuple(range(12))])
        self.assertEqual(r.fewest_taken(heap, (1, 1), (0, 0), (0, 0)), 12)
        twelve = Drawing(h.lattice(6, 2))
        self.assertEqual(r.fewest_taken(twelve, (1, 1), (1, 1), (-5, -5)), 1)
        self.assertEqual(r.fewest_taken(twelve, (1, 1), (4, 4), (-5, -5)), 2)

    def test_refused(self):
        good = [PEN, (1, 1), (1, 1), (9, 9)]
        h.refuse(self, r.is_enough, FRONT + [("lot", BadLot, h.lot_below(4))], good + [(1, 2)])
        h.refuse(self, r.fewest_taken, FRONT, good)
        h.refuse(self, r.least_lots, FRONT, good)
        for lot in ((4,), (-1,), (1, 1), (2, 1), [1], (False,), None):
            h.fails(self, BadLot, r.is_enough, *good, lot)


class Tables(unittest.TestCase):
    def test_heart_a_lot_or_a_table(self):
        told = {True: 0, False: 0}
        for drawing, body, one, other in scenes(422, 20):
            least = r.fewest_taken(drawing, body, one, other)
            for most in (0, 1, 2, 3, 12, 999999999):
                front = [drawing, body, one, other, most]
                table = h.ask(self, r.need_table, NAMES + ["most"], front)
                told[least <= most] += 1
                self.assertIs(table is None, least <= most)
                if table is None:
                    continue
                self.assertEqual(list(table), sorted(table))
                self.assertTrue(is_table(*front, table))
                self.assertIs(r.is_need_table(*front, table), True)
                self.assertIs(r.is_need_table(*front, dict(reversed(list(table.items())))), True)
        self.assertGreater(min(told.values()), 40)

    def test_all_are_judged(self):
        dice = random.Random(423)
        told = {True: 0, False: 0}
        for drawing, body, one, other in scenes(424, 16):
            many = len(drawing)
            needs = [("block", k, i) for k in (0, 1) for i in range(many)] + [("ring", ring) for ring in rounds(many)]
            for most in (0, 1, 2):
                front = (drawing, body, one, other, most)
                first = r.need_table(*front)
                for _ in range(10):
                    if first is None:
                        thing = {lot: dice.choice(needs or [("block", 0, 0)]) for lot in all_lots(many, most)}
                    else:
                        thing = dict(first)
                        spare = all_lots(many, most + 1)
                        for lot in dice.sample(spare, dice.randint(0, min(2, len(spare)))):
                            good = [need for need in needs if is_need(drawing, body, one, other, lot, need)]
                            thing[lot] = dice.choice(good if good and dice.random() < 0.7 else needs or [("block", 0, 0)])
                        if dice.random() < 0.3:
                            del thing[dice.choice(list(thing))]
                    wanted = is_table(*front, thing)
                    self.assertIs(r.is_need_table(*front, thing), wanted)
                    told[wanted] += 1
        self.assertGreater(min(told.values()), 60)

    def test_all_keys_are_asked(self):
        front = (NESTED, (1, 1), (5, 5), (20, 20), 1)
        table = r.need_table(*front)
        self.assertIs(r.is_need_table(*front, table), True)
        spare = [lot for lot in [(k,) for k in range(8)] if lot not in table][0]
        first = table[()]
        self.assertIs(r.is_need_table(*front, {**table, spare: first}), True)
        self.assertIs(r.is_need_table(*front, {**table, spare: ("block", 0, 0)}), False)
        self.assertIs(r.is_need_table(*front, {**table, (0, 7): first}), False)

    def test_each_block_of_a_ring_is_followed(self):
        for front in ((NESTED, (1, 1), (5, 5), (20, 20), 1), (SHARED, (1, 1), (3, 5), (20, 4), 0)):
            table = r.need_table(*front)
            if table is None:
                continue
            for lot in table:
                less = {key: table[key] for key in table if key != lot}
                self.assertIs(r.is_need_table(*front, less), False)
        front = (NESTED, (1, 1), (5, 5), (20, 20), 1)
        table = r.need_table(*front)
        for lot in table:
            if lot:
                # A ring with a block of the lot shows nothing, though it parts the spots.
                self.assertIs(r.is_need_table(*front, {**table, lot: table[()]}), False)
                self.assertIn(lot[0], table[()][1])

    def test_a_ring_is_no_need_where_a_block_bars(self):
        ring = (0, 1, 3, 2)
        covered = Drawing(list(PEN.blocks) + [(8, 8, 12, 12)])
        self.assertIs(r.is_need_table(PEN, (1, 1), (1, 1), (9, 9), 0, {(): ("ring", ring)}), True)
        self.assertIs(r.is_need_table(covered, (1, 1), (1, 1), (9, 9), 0, {(): ("ring", ring)}), False)
        self.assertIs(r.is_need_table(covered, (1, 1), (1, 1), (9, 9), 0, {(): ("block", 1, 4)}), True)
        self.assertIs(r.is_need_table(covered, (1, 1), (1, 1), (9, 9), 0, {(): ("block", 0, 4)}), False)
        first = {(): ("block", 1, 4), (4,): ("ring", ring)}
        self.assertIs(r.is_need_table(covered, (1, 1), (1, 1), (9, 9), 1, first), True)

    def test_any_value(self):
        front = (PEN, (1, 1), (1, 1), (9, 9), 0)
        ring = (0, 1, 3, 2)
        self.assertEqual(r.need_table(*front), {(): ("ring", ring)})
        h.never(self, lambda thing: r.is_need_table(*front, thing), [
            {(): ["ring", ring]}, {(): ("ring", list(ring))}, {(): ("ring", (False, 1, 3, 2))}, {(): ("block", 0, 0)}, {},
            {(): None}, {(): ("ring", ring, 1)}, [((), ("ring", ring))], None, {0: ("ring", ring)}, {(): ("ring", ring), 0: 1},
            {(): ("ring", ring), (0,): ("ring", ring)}, {(): ("ring", None)}, {(): ()}, {(): "ring"},
            {(): ("rings", ring)}, {(): (True, ring)}, {(): ("block", ring)},
        ])
        good = {(): ("block", 0, 0), (0,): ("block", 0, 1)}
        barred = (Drawing([(0, 0, 3, 3), (0, 0, 4, 3)]), (1, 1), (1, 1), (9, 9), 1)
        self.assertIs(r.is_need_table(*barred, good), True)
        h.never(self, lambda thing: r.is_need_table(*barred, thing), [
            {(): ("block", 0, 0)}, {**good, (False,): ("block", 0, 1), (0,): None}, {(): good[()], (False,): good[(0,)]},
            {**good, (0,): ("block", 0, 0)}, {**good, (0,): ("block", 1, 1)}, {**good, (0,): ("block", False, 1)},
            {**good, (0,): ("block", 0, True)}, {**good, (1,): ("block", 0, 1)}, {**good, (2,): ("block", 0, 0)},
        ])
        for values in (front, barred, (Drawing([]), (1, 1), (1, 1), (1, 1), 0)):
            h.judge_any(self, r.is_need_table, *values)

    def test_refused(self):
        good = [PEN, (1, 1), (1, 1), (9, 9)]
        h.refuse(self, r.need_table, FRONT + [MOST], good + [0])
        h.refuse(self, r.is_need_table, FRONT + [MOST, ("thing", None, None)], good + [0, None])


if __name__ == "__main__":
    unittest.main()
