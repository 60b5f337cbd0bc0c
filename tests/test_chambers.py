import itertools
import random
import unittest

from gapstairs import chambers as c
from gapstairs.drawings import Drawing, scaled
from gapstairs.errors import BadBody, BadDrawing, BadSpot, BadSpots, NotFree
from gapstairs.fits import fits
from gapstairs.ways import is_way
from tests import helpers as h

FRONT = [("drawing", BadDrawing, h.drawing), ("body", BadBody, h.body)]
SPOT = ("spot", BadSpot, h.pair_of_numbers)
ENDS = [("one", BadSpot, h.pair_of_numbers), ("other", BadSpot, h.pair_of_numbers)]
SPOTS = ("spots", BadSpots, h.list_of(h.pair_of_numbers))
SCENES = [(Drawing(blocks), body) for blocks, body in h.small_scenes(91, 45)]
GATE = Drawing([(0, 0, 9, 1), (0, 8, 9, 9), (0, 0, 1, 9), (8, 0, 9, 6)])


def some_spots(dice, flood, many):
    """Spots near the blocks, some of which fit and some of which do not."""
    free = flood.spots()
    area = [(dice.randint(flood.left, flood.right), dice.randint(flood.low, flood.high)) for _ in range(many)]
    closed = [spot for spot in free if flood.home[spot] != flood.outer()]
    return area + dice.sample(free, min(many, len(free))) + dice.sample(closed, min(many, len(closed)))


class Ways(unittest.TestCase):
    def test_ways_and_chambers_one_by_one(self):
        dice = random.Random(92)
        for drawing, body in SCENES:
            flood = h.Flood(drawing.blocks, body)
            spots = some_spots(dice, flood, 6)
            for one, other in itertools.product(spots, repeat=2):
                wanted = flood.share(one, other)
                self.assertIs(c.same_chamber(drawing, body, one, other), wanted)
                way = c.way_between(drawing, body, one, other)
                if wanted:
                    self.assertIs(type(way), list)
                    self.assertTrue(is_way(drawing, body, way) and way[0] == one and way[-1] == other, way)
                else:
                    self.assertIsNone(way)
            told = h.ask(self, c.chambers, ["drawing", "body", "spots"], [drawing, body, spots])
            groups = {}
            for k, spot in enumerate(spots):
                if spot in flood.home:
                    groups.setdefault(flood.home[spot], []).append(k)
            self.assertTrue(h.same(told, sorted(tuple(group) for group in groups.values())))

    def test_one_that_just_fits_and_one_too_large(self):
        self.assertTrue(c.same_chamber(GATE, (2, 2), (4, 4), (20, 0)))
        self.assertTrue(c.same_chamber(GATE, (7, 2), (1, 6), (20, 0)))
        self.assertFalse(c.same_chamber(GATE, (2, 3), (4, 4), (20, 0)))
        self.assertIsNone(c.way_between(GATE, (2, 3), (4, 4), (20, 0)))
        self.assertTrue(c.same_chamber(GATE, (1, 7), (1, 1), (7, 1)))

    def test_a_body_between_two_blocks(self):
        slot = Drawing([(0, 0, 5, 9), (7, 0, 12, 9), (0, -3, 12, 0)])
        self.assertEqual(c.way_between(slot, (2, 2), (5, 0), (5, 0)), [(5, 0)])
        self.assertTrue(c.same_chamber(slot, (2, 2), (5, 0), (5, 20)))
        self.assertEqual(c.chambers(slot, (2, 2), [(5, 0), (5, 0), (6, 0), (-9, -9)]), [(0, 1, 3)])
        self.assertEqual(c.chambers(slot, (2, 2), []), [])
        self.assertEqual(c.chambers(slot, (2, 2), ()), [])
        # A line of no width: the body slides in a slot that is as wide as it is.
        closed = Drawing(list(slot.blocks) + [(5, 8, 7, 9)])
        self.assertFalse(c.same_chamber(closed, (2, 2), (5, 0), (5, 20)))
        self.assertEqual(c.closed_chambers(closed, (2, 2)), [(5, 0)])
        self.assertEqual(c.closed_chambers(closed, (2, 8)), [(5, 0)])
        self.assertEqual(c.closed_chambers(closed, (2, 9)), [])

    def test_far_away(self):
        far = 999999999
        corners = list(itertools.product((-far, far), repeat=2))
        for drawing in (Drawing([]), GATE, Drawing([(-far, -far, -far + 1, far)])):
            for one, other in itertools.product(corners, repeat=2):
                if fits(drawing, (3, 3), one) and fits(drawing, (3, 3), other):
                    way = c.way_between(drawing, (3, 3), one, other)
                    self.assertTrue(is_way(drawing, (3, 3), way) and (way[0], way[-1]) == (one, other))
        big = Drawing([(-far, -far, far, 0)])
        self.assertTrue(c.same_chamber(big, (far, far), (-far, 0), (0, far)))
        self.assertFalse(c.same_chamber(big, (far, far), (-far, -1), (0, far)))

    def test_refused(self):
        good = [GATE, (2, 2), (4, 4), (20, 0)]
        h.refuse(self, c.same_chamber, FRONT + ENDS, good)
        h.refuse(self, c.way_between, FRONT + ENDS, good)
        h.refuse(self, c.chambers, FRONT + [SPOTS], [GATE, (2, 3), [(4, 4), (20, 0)]])
        for wrong in ([(0, True)], [[0, 0]], (0, 0), {(0, 0): 1}, None, [(0, 0), None]):
            h.fails(self, BadSpots, c.chambers, GATE, (1, 1), wrong)


class Facts(unittest.TestCase):
    def test_lesser_bodies_share_more(self):
        dice = random.Random(93)
        for drawing, body in SCENES:
            flood = h.Flood(drawing.blocks, body)
            spots = dice.sample(flood.spots(), min(6, len(flood.spots())))
            less = (dice.randint(1, body[0]), dice.randint(1, body[1]))
            for one, other in itertools.combinations(spots, 2):
                if flood.share(one, other):
                    self.assertTrue(c.same_chamber(drawing, less, one, other))

    def test_scaled(self):
        dice = random.Random(94)
        for drawing, body in SCENES:
            times = dice.randint(2, 4)
            wide = (body[0] * times - dice.randint(0, times - 1), body[1] * times - dice.randint(0, times - 1))
            flood = h.Flood(drawing.blocks, body)
            spots = some_spots(dice, flood, 4)
            many = [(x * times, y * times) for x, y in spots]
            told = c.chambers(scaled(drawing, times), wide, many)
            self.assertEqual(told, c.chambers(drawing, body, spots))


class FirstSpots(unittest.TestCase):
    def test_one_by_one(self):
        dice = random.Random(95)
        for drawing, body in SCENES:
            flood = h.Flood(drawing.blocks, body)
            self.assertTrue(h.same(h.ask(self, c.closed_chambers, ["drawing", "body"], [drawing, body]), flood.closed()))
            for spot in some_spots(dice, flood, 8):
                if spot not in flood.home:
                    self.assertIs(c.is_outdoors(drawing, body, spot), False)
                    h.fails(self, NotFree, c.first_spot, drawing, body, spot)
                    continue
                outdoors = flood.home[spot] == flood.outer()
                self.assertIs(c.is_outdoors(drawing, body, spot), outdoors)
                first = c.first_spot(drawing, body, spot)
                self.assertEqual(first, None if outdoors else flood.home[spot])
                if first is not None:
                    self.assertIn(first[0], [block[2] for block in drawing.blocks])
                    self.assertIn(first[1], [block[3] for block in drawing.blocks])

    def test_without_blocks(self):
        none = Drawing([])
        self.assertIs(c.is_outdoors(none, (5, 5), (-3, 8)), True)
        self.assertIsNone(c.first_spot(none, (5, 5), (-3, 8)))
        self.assertEqual(c.closed_chambers(none, (1, 1)), [])
        self.assertEqual(c.clusters(none, (1, 1)), [])
        self.assertEqual(c.signed_lots(none, (1, 1)), 0)

    def test_many_chambers_in_a_lattice(self):
        for bars in (2, 3, 4, 5, 6):
            drawing = Drawing(h.lattice(bars, 3))
            self.assertEqual(len(c.closed_chambers(drawing, (2, 3))), (bars - 1) ** 2)
            self.assertEqual(len(c.closed_chambers(drawing, (3, 4))), 0)

    def test_refused(self):
        h.refuse(self, c.is_outdoors, FRONT + [SPOT], [GATE, (2, 3), (4, 4)])
        h.refuse(self, c.first_spot, FRONT + [SPOT], [GATE, (2, 3), (4, 4)])
        h.refuse(self, c.closed_chambers, FRONT, [GATE, (2, 3)])
        h.refuse(self, c.clusters, FRONT, [GATE, (2, 3)])
        h.refuse(self, c.signed_lots, FRONT, [GATE, (2, 3)])


def shared(boxes):
    left, low = max(box[0] for box in boxes), max(box[1] for box in boxes)
    right, high = min(box[2] for box in boxes), min(box[3] for box in boxes)
    return left < right and low < high


class Counting(unittest.TestCase):
    def test_clusters_and_signed_lots(self):
        for drawing, body in SCENES:
            boxes = [(b[0] - body[0], b[1] - body[1], b[2], b[3]) for b in drawing.blocks]
            many = range(len(boxes))
            groups = [{k} for k in many]
            for i, j in itertools.combinations(many, 2):
                if shared([boxes[i], boxes[j]]):
                    joined = [group for group in groups if i in group or j in group]
                    groups = [group for group in groups if group not in joined] + [set().union(*joined)]
            wanted = sorted(tuple(sorted(group)) for group in groups)
            self.assertTrue(h.same(h.ask(self, c.clusters, ["drawing", "body"], [drawing, body]), wanted))
            if len(boxes) > 9:
                continue
            signed = sum(
                (1 if size % 2 else -1) for size in range(1, len(boxes) + 1)
                for lot in itertools.combinations(many, size) if shared([boxes[k] for k in lot])
            )
            self.assertEqual(c.signed_lots(drawing, body), signed)

    def test_heart_chambers_are_counted_without_ways(self):
        dice = random.Random(96)
        twelve = [(Drawing(h.random_blocks(dice, 12, 12, 9)), (dice.randint(1, 4), dice.randint(1, 4))) for _ in range(25)]
        for drawing, body in SCENES + twelve:
            wanted = len(c.clusters(drawing, body)) - c.signed_lots(drawing, body)
            self.assertEqual(len(c.closed_chambers(drawing, body)), wanted)

    def test_clusters_ascend(self):
        # The first and the last block come together only by way of the last one.
        drawing = Drawing([(0, 0, 10, 1), (1, 20, 3, 21), (2, 21, 4, 22), (8, 4, 10, 5), (9, 1, 10, 5)])
        self.assertEqual(c.clusters(drawing, (1, 1)), [(0, 3, 4), (1, 2)])

    def test_all_in_one_place(self):
        heap = Drawing([(-k, -k, k, k) for k in range(1, 13)])
        self.assertEqual(c.clusters(heap, (1, 1)), [tuple(range(12))])
        self.assertEqual(c.signed_lots(heap, (1, 1)), 1)


if __name__ == "__main__":
    unittest.main()
