import random
import unittest

from gapstairs import journeys as s
from gapstairs.drawings import Drawing
from gapstairs.errors import BadBody, BadHouse, BadJourney, BadPlace
from gapstairs.fits import fits
from gapstairs.floors import House, house_room
from gapstairs.forms import Form, repeated, still
from gapstairs.lifts import house_stairs
from tests import helpers as h
from tests import houses as o
from tests.test_floors import TWO

HOUSE = ("house", BadHouse, o.house)
NAMES = ["house", "start", "journey"]
PEN = House((Drawing(h.pen(0, 0, 10, 10)),), ())
INSIDE = (0, (1, 1))


def nested(levels, inner):
    for _ in range(levels):
        inner = [("times", 1, inner)]
    return inner


def is_journey(house, thing, deep=0):
    """How many rows a journey has; None if it is none."""
    if type(thing) not in (list, tuple) or deep > 8:
        return None
    many = 0
    for row in thing:
        if type(row) is not tuple or not row or type(row[0]) is not str:
            return None
        if row[0] == "times":
            if len(row) != 3 or not h.from_zero(row[1]):
                return None
            inner = is_journey(house, row[2], deep + 1)
            if inner is None:
                return None
            many += inner
        elif row[0] == "to":
            if len(row) != 2 or not o.place_in(len(house.floors))(row[1]):
                return None
        elif row[0] != "load" or len(row) != 3 or not all(h.number(item) for item in row[1:]):
            return None
        many += 1
    return many if many <= 40 else None


def journey_judge(house):
    return lambda thing: is_journey(house, thing) is not None


class Traveller:
    """A body that does a journey, row by row."""

    def __init__(self, house, start, body, known):
        self.house, self.place, self.body, self.done, self.known = house, start, body, 0, known
        self.stuck = not fits(house.floors[start[0]], body, start[1])

    def go(self, journey):
        for row in journey:
            if row[0] == "times":
                for _ in range(row[1]):
                    if not self.stuck:
                        self.go(row[2])
                continue
            if self.stuck:
                return
            if row[0] == "to":
                key = (self.body, self.place, row[1])
                if key not in self.known:
                    self.known[key] = o.gets(self.house, self.body, self.place, row[1])
                self.stuck = not self.known[key]
                self.place = self.place if self.stuck else row[1]
            else:
                later = tuple(max(1, item + more) for item, more in zip(self.body, row[1:]))
                self.stuck = not fits(self.house.floors[self.place[0]], later, self.place[1])
                self.body = self.body if self.stuck else later
            self.done += not self.stuck


def end_place(start, journey):
    for row in journey:
        if row[0] == "to":
            start = row[1]
        elif row[0] == "times" and row[1]:
            start = end_place(start, row[2])
    return start


def random_journey(dice, places, deep=0):
    rows = []
    for _ in range(dice.randint(0 if deep else 1, 3)):
        kind = dice.random()
        if kind < 0.45:
            rows.append(("to", dice.choice(places)))
        elif kind < 0.75 or deep == 2:
            rows.append(("load", dice.randint(-2, 2), dice.randint(-2, 2)))
        else:
            rows.append(("times", dice.choice([0, 1, 2, 3, 5]), random_journey(dice, places, deep + 1)))
    return rows if dice.random() < 0.5 else tuple(rows)


def unrolled(journey):
    rows = []
    for row in journey:
        rows.extend(unrolled(row[2]) * row[1] if row[0] == "times" else [row])
    return rows


class Journeys(unittest.TestCase):
    def test_bodies_one_by_one(self):
        dice = random.Random(1031)
        seen = {}
        for _ in range(70):
            house, places = o.random_house(dice, dice.randint(1, 2))
            known = {}
            start = dice.choice(places)
            for _ in range(4):
                journey = random_journey(dice, places)
                form = h.ask(self, s.journey_form, NAMES, [house, start, journey])
                self.assertTrue(type(form) is Form and (form.start, form.end) == (start, end_place(start, journey)))
                for body in h.bodies_to(5) + [(30, 2), (2, 30), (30, 30)]:
                    one = Traveller(house, start, body, known)
                    one.go(journey)
                    told = h.ask(self, s.stopped, NAMES + ["body"], [house, start, journey, body])
                    self.assertIs(h.stairs_has(form.stairs, body), not one.stuck)
                    if one.stuck:
                        self.assertTrue(h.same(told, (one.done, one.place, one.body)))
                    else:
                        self.assertIsNone(told)
                        self.assertEqual(tuple(max(a, b + c) for a, b, c in zip(form.least, body, form.by)), one.body)
                        self.assertEqual(form.end, one.place)
                    seen[(one.stuck, one.done > 0)] = True
                rows = unrolled(journey)
                if len(rows) <= 40:
                    self.assertTrue(s.journey_form(house, start, rows) == form)
        self.assertEqual(len(seen), 4)

    def test_rows(self):
        start, away = (0, (-3, 1)), (1, (5, 5))
        room = house_room(TWO, start)
        self.assertTrue(s.journey_form(TWO, start, []) == still(start, room))
        self.assertEqual(s.journey_form(TWO, start, [("to", away)]).stairs, house_stairs(TWO, start, away))
        self.assertTrue(s.journey_form(TWO, start, [("times", 0, [("to", away)])]) == still(start, room))
        self.assertTrue(s.journey_form(TWO, start, [("to", start)]) == still(start, room))
        self.assertEqual(s.stopped(TWO, start, [], (4, 9)), (0, start, (4, 9)))
        self.assertEqual(s.stopped(TWO, start, [("times", 0, [])], (4, 9)), (0, start, (4, 9)))
        self.assertEqual(s.stopped(TWO, start, [("to", away), ("to", away), ("load", -5, 4), ("to", start)], (2, 3)), (3, away, (1, 7)))
        self.assertIsNone(s.stopped(TWO, start, [("to", away), ("load", -5, 0), ("to", start)], (2, 3)))
        # Once no place of the lift is where the body stands, it has to get to the lift first.
        self.assertEqual(s.journey_form(TWO, (1, (9, 9)), [("to", (0, (30, 2)))]).stairs, ((2, 3),))

    def test_times_too_great_to_do_one_by_one(self):
        far = 999999999
        grow = [("times", far, [("load", 1, 0)])]
        self.assertEqual(s.stopped(PEN, INSIDE, grow, (3, 2)), (5, INSIDE, (8, 2)))
        self.assertEqual(s.journey_form(PEN, INSIDE, grow).stairs, ())
        sway = [("times", far, [("load", 3, 1), ("load", -3, -1)])]
        self.assertTrue(s.journey_form(PEN, INSIDE, sway) == still(INSIDE, ((5, 7),)))
        self.assertIsNone(s.stopped(PEN, INSIDE, sway, (5, 7)))
        self.assertEqual(s.stopped(PEN, INSIDE, sway, (6, 7)), (0, INSIDE, (6, 7)))
        less = s.journey_form(PEN, INSIDE, [("times", far, [("times", far, [("load", -1, 0)])])])
        self.assertTrue(less == Form(INSIDE, INSIDE, ((8, 8),), (1, 1), (-far * far, 0)))
        # Growing on a free floor, and coming back from it as often as it goes.
        free = House((Drawing([(0, 0, 4, 4)]),), ())
        one, other = (0, (9, 9)), (0, (-5, 0))
        row = [("load", 1, 0), ("to", other), ("to", one)]
        form = s.journey_form(free, one, [("times", far, row)])
        self.assertEqual((form.start, form.end, form.stairs), (one, one, ()))
        self.assertEqual(s.stopped(free, one, [("times", far, row)], (2, 3)), (10, one, (6, 3)))
        self.assertEqual(s.stopped(free, one, [("times", far, [("times", 2, row), ("load", -2, 0)])], (2, 3)), None)
        self.assertEqual(s.stopped(free, one, [("times", far, [("times", 2, row), ("load", -1, 0)])], (2, 3)), (18, one, (6, 3)))
        self.assertEqual(s.stopped(free, one, [("times", far, [("times", far, []), ("load", 0, 1)])], (2, 3)), None)
        # From the second time on it begins elsewhere.
        twice = [("times", far, [("to", other), ("load", -far, 2)])]
        self.assertEqual(s.journey_form(free, one, twice).end, other)
        self.assertIsNone(s.stopped(free, one, twice, (5, 1)))
        self.assertEqual(s.stopped(free, one, twice, (6, 1)), (0, one, (6, 1)))

    def test_times_fit_one_another(self):
        dice = random.Random(1032)
        for _ in range(25):
            house, places = o.random_house(dice, 1)
            start = dice.choice(places)
            rows = [("load", dice.randint(-2, 2), dice.randint(-2, 2)), ("to", dice.choice(places)), ("to", start)]
            once = s.journey_form(house, start, rows)
            for k in (1, 2, 7, 10 ** 9):
                self.assertTrue(s.journey_form(house, start, [("times", k, rows)]) == repeated(once, k))

    def test_what_is_judged(self):
        plain = ("load", 1, 0)
        for journey in ([], (), [plain] * 40, [("times", 39, [plain] * 39)], nested(8, []), nested(8, [plain] * 32), nested(3, ())):
            self.assertIs(h.ask(self, s.is_journey, ["house", "thing"], [TWO, journey]), True)
        for journey in ([plain] * 41, [("times", 1, [plain] * 40)], nested(9, []), nested(8, [plain] * 33), nested(70, []),
                        [plain, list(plain)], [("times", -1, [])], [("times", True, [])], [("times", 1)], [("times", 1, None)],
                        [("times", 1, plain)], [("load", 1)], [("load", 1, False)], [("load", 1, 2, 3)], [("to", (2, (0, 0)))],
                        [("to", (0, [0, 0]))], [("to", (False, (0, 0)))], [("to",)], [("go", "left")], [()], ["to"], {}, [[]]):
            self.assertIs(s.is_journey(TWO, journey), False)
            h.fails(self, BadJourney, s.journey_form, TWO, INSIDE, journey)
        for value in h.any_values() + [[value] for value in h.any_values()]:
            self.assertIs(s.is_journey(TWO, value), journey_judge(TWO)(value))
        shared = [("times", 2, [])] * 40
        for _ in range(7):
            shared = [("times", 2, shared)] * 1000
        self.assertIs(s.is_journey(TWO, shared), False)

    def test_wrong_inputs(self):
        params = [HOUSE, ("start", BadPlace, o.place_in(2)), ("journey", BadJourney, journey_judge(TWO))]
        good = [TWO, (0, (-3, 1)), [("to", (1, (0, 0)))]]
        h.refuse(self, s.journey_form, params, good)
        h.refuse(self, s.stopped, params + [("body", BadBody, h.body)], good + [(1, 1)])
        h.refuse(self, s.is_journey, [HOUSE, ("thing", None, None)], [TWO, 1])


if __name__ == "__main__":
    unittest.main()
