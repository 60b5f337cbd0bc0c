import random
import unittest

from gapstairs import seasons as s
from gapstairs.drawings import Drawing
from gapstairs.errors import BadBody, BadCalendar, BadSpot
from gapstairs.fits import fits
from gapstairs.passages import stairs_between
from gapstairs.rooms import room
from gapstairs.stairs import inside, met, notches
from gapstairs.ways import is_clear, is_way
from tests import helpers as h
from tests.test_forms import ALL

CALENDAR = ("calendar", BadCalendar, lambda thing: h.list_of(h.drawing)(thing) and 1 <= len(thing) <= 40)
BODY = ("body", BadBody, h.body)
ENDS = [("one", BadSpot, h.pair_of_numbers), ("other", BadSpot, h.pair_of_numbers)]
NAMES = ["calendar", "body", "one", "other"]
PEN = h.pen(0, 0, 7, 7)
# The pen is open on the right, shut, open on the left.
GATES = [Drawing(PEN[:3]), Drawing(PEN), Drawing(PEN[:2] + PEN[3:])]


def scenes(seed, rounds):
    dice = random.Random(seed)
    made = [(GATES, (9, 2), (-4, 2)), (GATES, (2, 2), (-4, 2)), (GATES[::-1], (9, 2), (-4, 2)), ([Drawing([])], (0, 0), (3, 3)),
            ([Drawing([]), Drawing(PEN), Drawing([])], (2, 2), (9, 9)), ([Drawing([(0, 0, 2, 2)]), Drawing([])], (1, 1), (1, 1)),
            ([Drawing(PEN[:3] + [(6, 0, 7, k)]) for k in (3, 4, 5, 7)], (9, 1), (2, 2))]
    yield from made
    for _ in range(rounds):
        blocks = h.random_blocks(dice, dice.randint(1, 4), 4, 4) if dice.random() < 0.5 else h.pen(0, 0, dice.randint(5, 7), dice.randint(5, 7))
        calendar = [Drawing(blocks)]
        for _ in range(dice.randint(0, 3)):
            blocks = list(calendar[-1].blocks)
            kind = dice.randrange(4)
            if blocks and kind < 2:
                blocks.pop(dice.randrange(len(blocks)))
            if kind in (1, 2):
                blocks = sorted(set(blocks + h.random_blocks(dice, 1, 4, 4)))
            calendar.append(Drawing(blocks))
        spots = [(dice.randint(-4, 7), dice.randint(-4, 7)) for _ in range(2)]
        yield calendar, spots[0], spots[1]


def lives(calendar, body, one, other):
    """Walk from whole spot to whole spot, one season after another."""
    blocks = sorted({block for drawing in calendar for block in drawing.blocks})
    here = None
    for drawing in calendar:
        flood = h.Flood(drawing.blocks, body, [(x, y) for l, b, r, t in blocks for x, y in ((l - body[0], b - body[1]), (r, t))] + [one, other])
        here = {one} if here is None else here
        homes = {flood.home[spot] for spot in here if spot in flood.home}
        here = {spot for spot, home in flood.home.items() if home in homes}
    return other in here


def nodes_of(calendar, body, one, other):
    xs = {x for d in calendar for b in d.blocks for x in (b[0] - body[0], b[2])} | {one[0], other[0]}
    ys = {y for d in calendar for b in d.blocks for y in (b[1] - body[1], b[3])} | {one[1], other[1]}
    xs, ys = sorted(xs | {min(xs) - 1, max(xs) + 1}), sorted(ys | {min(ys) - 1, max(ys) + 1})
    return xs, ys


def next_to(xs, ys, node):
    i, j = xs.index(node[0]), ys.index(node[1])
    return [(xs[k], node[1]) for k in (i - 1, i + 1) if 0 <= k < len(xs)] + [(node[0], ys[k]) for k in (j - 1, j + 1) if 0 <= k < len(ys)]


def least_tide(calendar, body, one, other):
    """The nodes that surely have to be in each list, gathered one by one."""
    xs, ys = nodes_of(calendar, body, one, other)
    lists, ahead = [], [one]
    for drawing in calendar:
        found = [node for node in ahead if fits(drawing, body, node)]
        for node in found:
            for there in next_to(xs, ys, node):
                if there not in found and is_clear(drawing, body, node, there):
                    found.append(there)
        lists.append(sorted(found))
        ahead = found
    return None if other in ahead else lists


def is_tide(calendar, body, one, other, lists):
    """The words of the point, for lists of spots."""
    xs, ys = nodes_of(calendar, body, one, other)
    for drawing, nodes in zip(calendar, lists):
        if len(set(nodes)) != len(nodes) or not all(x in xs and y in ys and fits(drawing, body, (x, y)) for x, y in nodes):
            return False
        if any(there not in nodes and is_clear(drawing, body, node, there) for node in nodes for there in next_to(xs, ys, node)):
            return False
    for drawing, nodes, later in zip(calendar[1:], lists, lists[1:]):
        if any(node not in later and fits(drawing, body, node) for node in nodes):
            return False
    return other not in lists[-1] and (one in lists[0] or not fits(calendar[0], body, one))


def is_passage(calendar, body, one, other, ways):
    if len(ways) != len(calendar) or [] in ways or not all(is_way(drawing, body, way) for drawing, way in zip(calendar, ways)):
        return False
    return ways[0][0] == one and ways[-1][-1] == other and all(a[-1] == b[0] for a, b in zip(ways, ways[1:]))


class Seasons(unittest.TestCase):
    def test_bodies_one_by_one(self):
        kinds = {}
        for calendar, one, other in scenes(1101, 40):
            stairs = h.ask(self, s.stairs_through, ["calendar", "one", "other"], [calendar, one, other])
            self.assertTrue(h.stairs(stairs))
            self.assertEqual(s.stairs_through(tuple(calendar), one, other), stairs)
            for body in h.bodies_to(5) + [(1, 9), (9, 1), (30, 2), (2, 30)]:
                wanted = lives(calendar, body, one, other)
                self.assertIs(h.stairs_has(stairs, body), wanted, ([d.blocks for d in calendar], one, other, body))
                self.assertIs(h.ask(self, s.lives, NAMES, [calendar, body, one, other]), wanted)
                way = h.ask(self, s.passage, NAMES, [calendar, body, one, other])
                tide = h.ask(self, s.tide, NAMES, [calendar, body, one, other])
                self.assertIs(way is not None, wanted)
                self.assertIs(tide is None, wanted)
                if wanted:
                    self.assertTrue(is_passage(calendar, body, one, other, way))
                else:
                    self.assertTrue(h.same(tide, least_tide(calendar, body, one, other)))
                kinds[(wanted, len(calendar))] = True
        self.assertTrue({(True, 1), (False, 1), (True, 3), (False, 3), (True, 4), (False, 4)} <= set(kinds), kinds)

    def test_judges(self):
        dice = random.Random(1102)
        told = {}
        for calendar, one, other in scenes(1103, 30):
            for body in ((1, 1), (2, 2), (3, 1), (2, 5)):
                values = [calendar, body, one, other]
                way, tide = s.passage(*values), s.tide(*values)
                near = [way, tuple(tuple(part) for part in way), way[:-1], way + way[-1:], [list(part[::-1]) for part in way[::-1]],
                        [part[:1] for part in way], [part + part[-1:] for part in way], [tuple(part) for part in way]] if way else []
                if way:
                    k = dice.randrange(len(way))
                    near += [[way[0][1:] or way[0]] + way[1:], way[:-1] + [way[-1][:-1] or way[-1]], [[way[0][-1]]] + way[1:]]
                    near += [way[:k] + [part] + way[k + 1:] for part in (way[k][:1] + way[k][-1:], way[k][:1] * 2, [])]
                    h.never(self, lambda value: s.is_passage(*values, value), [way[:k] + [part] + way[k + 1:] for part in (None, 1, "way", [None])])
                for one_way in near:
                    right = is_passage(calendar, body, one, other, one_way)
                    self.assertIs(h.ask(self, s.is_passage, NAMES + ["thing"], values + [one_way]), right)
                    told[("way", right)] = True
                if tide:
                    self.judged_tides(dice, values, tide, told)
                for thing in (way, tide):
                    if thing is not None:
                        self.assertIs(s.is_passage(*values, thing) or s.is_tide(*values, thing), True)
                        h.never(self, lambda value: s.is_passage(*values, value) or s.is_tide(*values, value), [
                            list(thing) + [None], {k: v for k, v in enumerate(thing)}, [[list(spot) for spot in part] for part in thing if part] or 1])
        self.assertEqual(len(told), 4)

    def judged_tides(self, dice, values, tide, told):
        calendar, body, one, other = values
        xs, ys = nodes_of(calendar, body, one, other)
        full = [[(x, y) for x in xs for y in ys if fits(drawing, body, (x, y))] for drawing in calendar]
        near = [tide, tuple(tuple(part[::-1]) for part in tide), [part[:-1] for part in tide], [part[1:] for part in tide], full,
                [part + part[:1] for part in tide], tide[1:] + tide[:1], [[] for _ in tide]]
        for _ in range(4):
            k = dice.randrange(len(tide))
            near.append([sorted(set(part + [dice.choice(full[k])])) if j == k and full[k] else part for j, part in enumerate(tide)])
            near.append([part + [(x + 90, y) for x, y in part[:1]] if j == k else part for j, part in enumerate(tide)])
            barred = [(x, y) for x in xs for y in ys if not fits(calendar[k], body, (x, y))]
            near.append([part + [dice.choice(barred)] if j == k and barred else part for j, part in enumerate(tide)])
        # All that cannot come to other, too, is a tide, if one is not of that.
        near.append([[node for node in part if not s.lives(calendar[k:], body, node, other)] for k, part in enumerate(full)])
        for lists in near:
            right = is_tide(calendar, body, one, other, lists)
            self.assertIs(h.ask(self, s.is_tide, NAMES + ["thing"], values + [lists]), right)
            told[("tide", right)] = True
        h.never(self, lambda thing: s.is_tide(*values, thing), [tide[:-1], tide + [[]], None, [None] * len(tide), dict(enumerate(tide))])

    def test_papers(self):
        dice = random.Random(1104)
        names = ["calendar", "one", "other"]
        for calendar, one, other in scenes(1105, 25):
            values = [calendar, one, other]
            stairs = s.stairs_through(*values)
            ways = h.ask(self, s.through_table, names, values)
            tides = h.ask(self, s.tide_table, names, values)
            self.assertEqual((list(ways), list(tides)), (list(stairs), notches(stairs)))
            for corner, way in ways.items():
                for big in {tuple(item or 60 for item in corner), (1, 1), (corner[0] or 60, 1), (1, corner[1] or 60)}:
                    self.assertTrue(is_passage(calendar, big, one, other, way))
            for body, tide in tides.items():
                self.assertEqual(tide, least_tide(calendar, body, one, other))
            papers = [stairs, ways, tides]
            names_of = names + ["stairs", "passages", "tides"]
            self.assertIs(h.ask(self, s.are_season_papers, names_of, values + papers), True)
            self.assertIs(s.are_season_papers(*values, stairs, dict(reversed(list(ways.items()))), {
                k: tuple(tuple(part[::-1]) for part in tides[k]) for k in reversed(list(tides))}), True)
            for wrong in [(), ALL, stairs[1:], stairs[:-1], h.random_stairs(dice, 4), h.random_stairs(dice, 4)]:
                if wrong != stairs:
                    some = {corner: ways.get(corner, list(ways.values())[0] if ways else []) for corner in wrong}
                    more = {body: tides.get(body, list(tides.values())[0] if tides else []) for body in notches(wrong)}
                    self.assertIs(s.are_season_papers(*values, wrong, some, more), False)
                    self.assertIs(s.are_season_papers(*values, wrong, ways, tides), False)
            bent = [(list(stairs), ways, tides), (stairs, {**ways, (77, 77): []}, tides), (stairs, ways, {**tides, (77, 77): []}),
                    (stairs, list(ways), tides), (stairs, ways, list(tides))]
            bent += [(stairs, {**ways, corner: thing}, tides) for corner in ways for thing in (
                None, [], ways[corner][1:], ways[corner] + [[other]], [part + [part[-1]] for part in ways[corner]],
                [[one, one]] + ways[corner][1:], ways[corner][:-1] + [[]], ways[corner][:-1] + [None], [ways[corner][0][1:]] + ways[corner][1:],
                [[(77, 77), one]] + ways[corner][1:])]
            bent += [(stairs, ways, {**tides, body: thing}) for body in tides for thing in (None, [[other]] * len(calendar), tides[body] + [[]])]
            for some in bent:
                self.assertIs(s.are_season_papers(*values, *some), False)

    def test_facts(self):
        dice = random.Random(1106)
        count = 0
        for calendar, one, other in scenes(1107, 40):
            stairs = s.stairs_through(calendar, one, other)
            self.assertEqual(s.stairs_through(calendar[::-1], other, one), stairs)
            twice = [drawing for drawing in calendar for _ in range(dice.randint(1, 2))]
            self.assertEqual(s.stairs_through(twice, one, other), stairs)
            if len(calendar) == 1:
                self.assertEqual(stairs, stairs_between(calendar[0], one, other))
            ends = met(room(calendar[0], one), room(calendar[-1], other))
            self.assertEqual([c for c in stairs if None in c], [c for c in ends if None in c])
            for axis in (0, 1):
                blocks = [block for drawing in calendar for block in drawing.blocks]
                gaps = {b[axis] - start for b in blocks for start in [c[axis + 2] for c in blocks] + [one[axis], other[axis]]}
                self.assertTrue(all(corner[axis] is None or corner[axis] in gaps for corner in stairs))
            k = dice.randrange(len(calendar))
            block = h.random_blocks(dice, 1, 4, 4)
            more = calendar[:k] + [Drawing(sorted(set(list(calendar[k].blocks) + block)))] + calendar[k + 1:]
            self.assertTrue(inside(s.stairs_through(more, one, other), stairs))
            each = [stairs_between(drawing, one, other) for drawing in calendar]
            count += any(h.stairs_has(stairs, body) and not any(h.stairs_has(one_of, body) for one_of in each) for body in h.bodies_to(5))
        self.assertGreater(count, 0)

    def test_by_hand(self):
        # A lock: in by one gate, wait while both are shut, out by the other one. No season lets through.
        one, other = (-10, 0), (10, 0)
        hall = [(-20, 5, 20, 6), (-20, -1, 20, 0), (-20, 0, -19, 5), (19, 0, 20, 5)]
        first, second = (-3, 0, -2, 5), (2, 0, 3, 5)
        lock = [Drawing(hall + [second]), Drawing(hall + [first, second]), Drawing(hall + [first])]
        self.assertEqual([stairs_between(drawing, one, other) for drawing in lock], [()] * 3)
        self.assertEqual(s.stairs_through(lock, one, other), ((4, 5),))
        self.assertEqual(s.stairs_through([lock[0], lock[2]], one, other), ((4, 5),))
        for body in ((4, 5), (1, 1), (4, 1), (3, 2)):
            self.assertTrue(is_passage(lock, body, one, other, s.passage(lock, body, one, other)))
        self.assertEqual(s.stairs_through([lock[2], lock[0]], one, other), ())
        self.assertEqual(s.stairs_through(GATES, (9, 2), (-6, 2)), ((6, None), (12, 4)))
        self.assertEqual(s.stairs_through([GATES[1]], (2, 2), (-6, 2)), ())
        self.assertEqual(s.tide([GATES[1]], (5, 5), (1, 1), (9, 9)), [[(1, 1)]])
        self.assertEqual(s.tide([GATES[1]], (6, 5), (1, 1), (9, 9)), [[]])
        self.assertEqual(s.tide([GATES[1]] * 2, (5, 5), (1, 1), (9, 9)), [[(1, 1)], [(1, 1)]])
        self.assertEqual(s.passage([Drawing([])] * 3, (1, 1), (2, 2), (2, 2)), [[(2, 2)]] * 3)
        self.assertEqual(s.stairs_through([Drawing([])] * 40, one, other), ALL)
        table = s.through_table([Drawing([])] * 40, one, other)
        self.assertIs(s.are_season_papers([Drawing([])] * 40, one, other, ALL, table, {}), True)

    def test_long_calendars(self):
        dice = random.Random(1110)
        count = 0
        for _ in range(150):
            pool = h.random_blocks(dice, 7, 3, 4)
            calendar = [Drawing([block for block in pool if dice.random() < 0.5]) for _ in range(7)]
            one, other = (dice.randint(-4, 4), dice.randint(-4, 4)), (dice.randint(-4, 4), dice.randint(-4, 4))
            body = (dice.randint(1, 2), dice.randint(1, 2))
            way = s.passage(calendar, body, one, other)
            self.assertIs(way is None, s.tide(calendar, body, one, other) is not None)
            if way is not None:
                self.assertTrue(is_passage(calendar, body, one, other, way))
                count += way != [[one]] * 7
        self.assertGreater(count, 10)

    def test_large_numbers(self):
        for calendar, one, other in scenes(1108, 12):
            big = [h.huge(drawing)[0] for drawing in calendar]
            ends = [(h.TIMES * x, h.TIMES * y) for x, y in (one, other)]
            self.assertEqual(s.stairs_through(big, *ends), h.huge_stairs(s.stairs_through(calendar, one, other)))

    def test_many_lines(self):
        dice = random.Random(1109)
        calendar = [Drawing(h.random_blocks(dice, 12, 60, 9)) for _ in range(6)]
        one, other = (-70, -70), (75, 75)
        tide = s.tide(calendar, (140, 140), (0, 0), other)
        self.assertTrue(tide is None or s.is_tide(calendar, (140, 140), (0, 0), other, tide))
        way = s.passage(calendar, (2, 2), one, other)
        self.assertTrue(is_passage(calendar, (2, 2), one, other, way))

    def test_wrong_inputs(self):
        good = [GATES, (1, 1), (9, 2), (-4, 2)]
        for function in (s.lives, s.passage, s.tide):
            h.refuse(self, function, [CALENDAR, BODY] + ENDS, good)
        for function in (s.is_passage, s.is_tide):
            h.refuse(self, function, [CALENDAR, BODY] + ENDS + [("thing", None, None)], good + [1])
            for value in h.any_values() + [[value] * 3 for value in h.any_values()]:
                wanted = function is s.is_tide and type(value) in (list, tuple) and len(value) == 3 and all(
                    part in ([], ()) and type(part) in (list, tuple) for part in value)
                self.assertIs(function(GATES, (9, 9), (2, 2), (-4, 2), value), wanted)
        for function in (s.stairs_through, s.through_table, s.tide_table):
            h.refuse(self, function, [CALENDAR] + ENDS, [GATES] + good[2:])
        rest = [("stairs", None, None), ("passages", None, None), ("tides", None, None)]
        h.refuse(self, s.are_season_papers, [CALENDAR] + ENDS + rest, [GATES] + good[2:] + [(), {}, {}])
        for value in ([], (), [Drawing([])] * 41, [Drawing([]), None], [[]], {0: Drawing([])}, Drawing([])):
            h.fails(self, BadCalendar, s.lives, value, (1, 1), (0, 0), (1, 1))
        for k in range(3):
            for value in h.any_values():
                papers = [s.stairs_through(*GATES_VALUES), s.through_table(*GATES_VALUES), s.tide_table(*GATES_VALUES)]
                papers[k] = value
                self.assertIs(s.are_season_papers(*GATES_VALUES, *papers), False)


GATES_VALUES = (GATES, (2, 2), (-4, 2))

if __name__ == "__main__":
    unittest.main()
