import itertools
import random
import unittest

from gapstairs import lanes as l
from gapstairs.drawings import Drawing
from gapstairs.errors import BadBody, BadDrawing, BadLane, BadSpot, BadSpots
from gapstairs.fits import fits
from gapstairs.ways import is_clear
from tests import helpers as h

FRONT = [
    ("drawing", BadDrawing, h.drawing), ("body", BadBody, h.body), ("spots", BadSpots, h.list_of(h.pair_of_numbers)),
]
LANE = ("lane", BadLane, h.lane)
ONE = Drawing([(0, 0, 2, 3)])


def cut(blocks, size, at, upright, most=60):
    """The stretches of a line, cut by looking at all its places in steps of a half."""
    found = []
    start = None
    for k in range(-2 * most, 2 * most + 1):
        place = (2 * at, k) if upright else (k, 2 * at)
        free = not h.is_barred(blocks, size, *place)
        if free and start is None:
            start = k
        if start is not None and (not free or k == 2 * most):
            last = k if free else k - 1
            found.append((None if start == -2 * most else start // 2, None if last == 2 * most else last // 2))
            start = None
    return found


def cut_lanes(blocks, size, spots):
    xs = {x for left, _, right, _ in blocks for x in (left - size[0], right)} | {x for x, _ in spots}
    ys = {y for _, low, _, high in blocks for y in (low - size[1], high)} | {y for _, y in spots}
    return (
        [("upright", x, a, b) for x in sorted(xs) for a, b in cut(blocks, size, x, True)]
        + [("level", y, a, b) for y in sorted(ys) for a, b in cut(blocks, size, y, False)]
    )


def is_on(lane, spot):
    kind, at, low, high = lane
    x, y = spot if kind == "upright" else spot[::-1]
    return x == at and (low is None or low <= y) and (high is None or y <= high)


class Lanes(unittest.TestCase):
    def test_lanes_cut_by_the_test(self):
        dice = random.Random(361)
        singles = 0
        for blocks, size in h.small_scenes(362, 30):
            drawing = Drawing(blocks)
            spots = [(dice.randint(-9, 9), dice.randint(-9, 9)) for _ in range(dice.randint(0, 3))]
            told = h.ask(self, l.lanes, ["drawing", "body", "spots"], [drawing, size, spots])
            self.assertTrue(h.same(told, cut_lanes(blocks, size, spots)))
            lines = h.ask(self, l.lines, ["drawing", "body", "spots"], [drawing, size, tuple(spots)])
            xs = {x for left, _, right, _ in blocks for x in (left - size[0], right)} | {x for x, _ in spots}
            ys = {y for _, low, _, high in blocks for y in (low - size[1], high)} | {y for _, y in spots}
            self.assertTrue(h.same(lines, (tuple(sorted(xs)), tuple(sorted(ys)))))
            singles += len([lane for lane in told if lane[2] is not None and lane[2] == lane[3]])
            self.assertTrue(all(l.is_lane(lane) is True for lane in told))
        self.assertGreater(singles, 20)

    def test_by_hand(self):
        none = Drawing([])
        self.assertEqual(l.lines(none, (1, 1), []), ((), ()))
        self.assertEqual(l.lanes(none, (1, 1), []), [])
        self.assertEqual(l.lanes(none, (1, 1), [(3, 4), (3, 4)]), [("upright", 3, None, None), ("level", 4, None, None)])
        self.assertEqual(l.lanes(ONE, (1, 1), [(1, 1)]), [
            ("upright", -1, None, None), ("upright", 1, None, -1), ("upright", 1, 3, None), ("upright", 2, None, None),
            ("level", -1, None, None), ("level", 1, None, -1), ("level", 1, 2, None), ("level", 3, None, None),
        ])
        slot = Drawing([(0, 0, 2, 3), (0, 5, 2, 8)])
        self.assertIn(("upright", 1, 3, 3), l.lanes(slot, (1, 2), [(1, 0)]))
        self.assertIn(("upright", 1, 3, 4), l.lanes(slot, (1, 1), [(1, 0)]))
        self.assertNotIn(3, [lane[2] for lane in l.lanes(slot, (1, 3), [(1, 0)])])

    def test_facts(self):
        dice = random.Random(363)
        for blocks, size in h.small_scenes(364, 20, 5):
            drawing = Drawing(blocks)
            spots = [(dice.randint(-9, 9), dice.randint(-9, 9)) for _ in range(4)]
            lanes = l.lanes(drawing, size, spots)
            for x, y in itertools.product(*l.lines(drawing, size, spots)):
                for kind in ("upright", "level"):
                    on = [lane for lane in lanes if lane[0] == kind and l.on_lane(lane, (x, y))]
                    self.assertEqual(len(on), 1 if fits(drawing, size, (x, y)) else 0)
            for lane in lanes:
                ends = [-50 if lane[2] is None else lane[2], 50 if lane[3] is None else lane[3]]
                one, other = [(lane[1], end) if lane[0] == "upright" else (end, lane[1]) for end in ends]
                self.assertTrue(is_clear(drawing, size, one, other))

    def test_crossing_and_on(self):
        ends = [(None, None), (None, 2), (1, None), (0, 3), (2, 2)]
        lanes = [(kind, at, a, b) for kind in ("upright", "level") for at in (0, 2, 4) for a, b in ends]
        places = [(x, y) for x in range(-2, 6) for y in range(-2, 6)]
        for lane in lanes:
            for place in places:
                self.assertIs(l.on_lane(lane, place), is_on(lane, place))
            for other in lanes:
                shared = [place for place in places if is_on(lane, place) and is_on(other, place)]
                told = h.ask(self, l.crossing, ["lane", "other"], [lane, other])
                self.assertEqual(told, shared[0] if shared and lane[0] != other[0] else None)

    def test_any_value(self):
        for value in h.any_values():
            self.assertIs(l.is_lane(value), h.lane(value))
        for lane in (("upright", 0, None, None), ("level", -3, None, 4), ("level", 0, 4, 4), ("upright", 9, -999999999, None)):
            self.assertIs(l.is_lane(lane), True)
        h.never(self, l.is_lane, [
            ("upright", 0, 2, 1), ("upright", None, 0, 1), ("upright", 0, 0), ("up", 0, None, None), (0, 0, None, None),
            ["upright", 0, None, None], ("level", False, None, None), ("level", 0, False, None), ("level", 0, None, True),
            ("level", 0, None, None, None), (["level"], 0, None, None), ("level", 0, "a", None), ("Level", 0, None, None),
        ])

    def test_refused(self):
        good = [ONE, (1, 1), [(0, 0)]]
        h.refuse(self, l.lines, FRONT, good)
        h.refuse(self, l.lanes, FRONT, good)
        lane = ("upright", 0, None, 4)
        h.refuse(self, l.on_lane, [LANE, ("spot", BadSpot, h.pair_of_numbers)], [lane, (0, 0)])
        h.refuse(self, l.crossing, [LANE, ("other", BadLane, h.lane)], [lane, lane])


if __name__ == "__main__":
    unittest.main()
