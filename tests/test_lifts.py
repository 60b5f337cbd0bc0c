import random
import unittest

from gapstairs import lifts as s
from gapstairs.bars import is_bar
from gapstairs.bodies import is_corner
from gapstairs.drawings import Drawing
from gapstairs.errors import BadBody, BadCorner, BadHouse, BadOther, BadPlace, BadPlaces
from gapstairs.fits import barred_box, fits
from gapstairs.floors import House, house_room
from gapstairs.passages import stairs_between
from gapstairs.stairs import notches
from gapstairs.ways import is_way
from gapstairs.webs import Web, between
from tests import helpers as h
from tests import houses as o
from tests.test_floors import TWO

HOUSE = ("house", BadHouse, o.house)
ENDS = [("one", BadPlace, o.place_in(2)), ("other", BadPlace, o.place_in(2))]
NAMES = ["house", "one", "other"]
GOOD = [TWO, (0, (-3, 1)), (1, (5, 5))]


def scenes(seed, rounds):
    """Houses with two places of them, many of which are joined for some bodies and not for all."""
    dice = random.Random(seed)
    for _ in range(rounds):
        house, known = o.random_house(dice)
        ends = [end for lift in house.lifts for end in lift[:2]]
        one = dice.choice(known + ends)
        other = dice.choice(known + ends)
        yield house, one, other


def rides(house, lift, corner):
    """Whether a corner rides a lift: the greatest bodies that it holds do."""
    return all(h.stairs_has(stairs, (corner[0] or 999, corner[1] or 999)) for stairs in (
        lift[2], house_room(house, lift[0]), house_room(house, lift[1])))


def leads(house, corner, one, other, legs):
    """Whether the legs lead from one to other, for bodies of the corner up to great sizes."""
    big = tuple(item or 60 for item in corner)
    if not fits(house.floors[one[0]], big, one[1]):
        return False
    here = one
    for kind, told in legs:
        if kind == "walk":
            for body in {big, (1, 1), (big[0], 1), (1, big[1])}:
                if told[0] != here[1] or not is_way(house.floors[here[0]], body, told):
                    return False
            here = (here[0], told[-1])
        else:
            lift = house.lifts[told]
            if here not in lift[:2] or not rides(house, lift, big):
                return False
            here = lift[1] if lift[0] == here else lift[0]
    return here == other


def is_fence(house, body, one, other, fence):
    """The words of the point, for a triple of the right kinds."""
    lot, bars, stuck = fence
    known = s.stations(house, [one, other])
    if one not in lot or other in lot or list(lot) != sorted(set(lot)) or not set(lot) <= set(known):
        return False
    pairs = [(here, there) for here in lot for there in known if there not in lot and here[0] == there[0]]
    cut = [n for n, lift in enumerate(house.lifts) if (lift[0] in lot) != (lift[1] in lot)]
    if sorted(bars) != sorted(pairs) or sorted(stuck) != cut:
        return False
    for here, there in pairs:
        if not is_bar(house.floors[here[0]], body, here[1], there[1], bars[(here, there)]):
            return False
    for n in cut:
        lift = house.lifts[n]
        if stuck[n] == ("stairs",):
            if h.stairs_has(lift[2], body):
                return False
        else:
            _, k, i = stuck[n]
            floor, (x, y) = lift[k]
            left, low, right, high = barred_box(house.floors[floor], body, i)
            if not (left < x < right and low < y < high):
                return False
    return True


class Lifts(unittest.TestCase):
    def test_bodies_one_by_one(self):
        told = {}
        for house, one, other in scenes(1011, 70):
            stairs = h.ask(self, s.house_stairs, NAMES, [house, one, other])
            self.assertTrue(h.stairs(stairs))
            for body in h.bodies_to(6) + [(40, 1), (1, 40), (40, 40)]:
                held = o.gets(house, body, one, other)
                self.assertIs(h.stairs_has(stairs, body), held, (house.lifts, one, other, body))
            self.assertEqual(stairs, s.house_stairs(house, other, one))
            told[(one == other, min(len(stairs), 3))] = True
        self.assertTrue({(False, 0), (False, 1), (False, 2), (True, 1)} <= set(told), told)

    def test_stations_and_webs(self):
        dice = random.Random(1012)
        for house, one, other in scenes(1013, 30):
            places = dice.choice([[one], [one, other], [other, one, one], [one, other, other, (0, (0, 0))]])
            known = h.ask(self, s.stations, ["house", "places"], [house, places])
            wanted = sorted(set(places) | {end for lift in house.lifts for end in lift[:2]})
            self.assertTrue(h.same(known, wanted))
            self.assertEqual(s.stations(house, tuple(places)), known)
            web = h.ask(self, s.house_web, ["house", "places"], [house, places])
            self.assertTrue(type(web) is Web and web.places == len(known))
            for i, here in enumerate(known):
                for j in range(i + 1, len(known)):
                    there = known[j]
                    straight = set()
                    if here[0] == there[0]:
                        straight |= h.held_set(stairs_between(house.floors[here[0]], here[1], there[1]), 5)
                    for lift in house.lifts:
                        if set(lift[:2]) == {here, there}:
                            straight |= {body for body in h.bodies_to(5) if rides(house, lift, body)}
                    self.assertEqual(h.held_set(web.links.get((i, j), ()), 5), straight)
            self.assertNotIn((), list(web.links.values()))
            web = s.house_web(house, [one, other])
            known = s.stations(house, [one, other])
            self.assertEqual(s.house_stairs(house, one, other),
                             between(web, known.index(one), known.index(other)) if one != other else house_room(house, one))

    def test_itineraries(self):
        kinds = {}
        for house, one, other in scenes(1014, 60):
            stairs = s.house_stairs(house, one, other)
            table = h.ask(self, s.itineraries, NAMES, [house, one, other])
            self.assertEqual(list(table), sorted(stairs, key=lambda c: [(item is None, item or 0) for item in c]))
            self.assertIs(h.ask(self, s.are_itineraries, NAMES + ["thing"], [house, one, other, table]), True)
            for corner, legs in table.items():
                self.assertTrue(leads(house, corner, one, other, legs))
                values = [house, corner, one, other, legs]
                self.assertIs(h.ask(self, s.is_itinerary, ["house", "corner", "one", "other", "thing"], values), True)
                as_tuples = tuple((kind, tuple(told) if kind == "walk" else told) for kind, told in legs)
                self.assertIs(s.is_itinerary(house, corner, one, other, as_tuples), True)
                kinds[tuple(kind for kind, _ in legs)] = True
                # To where it stands it may walk, too; from there it gets nowhere else without a leg.
                more = list(legs) + [("walk", [other[1]])]
                self.assertIs(s.is_itinerary(house, corner, one, other, more), True)
                for near in ([list(leg) for leg in legs], legs[1:], legs[:-1], legs[::-1], legs + legs):
                    right = all(type(leg) is tuple for leg in near) and leads(house, corner, one, other, near)
                    self.assertIs(s.is_itinerary(house, corner, one, other, near), right)
                wider = (None, None)
                self.assertIs(s.is_itinerary(house, wider, one, other, legs), leads(house, (None, None), one, other, legs)
                              and h.stairs_has(stairs, (900, 900)))
            if table:
                some = dict(table)
                some.pop(list(table)[0])
                self.assertIs(s.are_itineraries(house, one, other, some), False)
                self.assertIs(s.are_itineraries(house, one, other, dict(reversed(list(table.items())))), True)
            h.never(self, lambda thing: s.are_itineraries(house, one, other, thing), [
                {**table, (77, 77): []}, list(table.items()), tuple(table), None])
        self.assertTrue({(), ("walk",), ("ride",), ("walk", "ride"), ("walk", "ride", "walk")} <= set(kinds), kinds)

    def test_fences(self):
        kinds = {}
        for house, one, other in scenes(1015, 60):
            if one == other:
                h.fails(self, BadOther, s.fences, house, one, other)
                continue
            stairs = s.house_stairs(house, one, other)
            walls = h.ask(self, s.fences, NAMES, [house, one, other])
            self.assertEqual(list(walls), notches(stairs))
            self.assertIs(h.ask(self, s.are_fences, NAMES + ["thing"], [house, one, other, walls]), True)
            for body, fence in walls.items():
                self.assertTrue(is_fence(house, body, one, other, fence))
                self.assertTrue(h.same((sorted(fence[1]), sorted(fence[2])), (list(fence[1]), list(fence[2]))))
                values = [house, body, one, other, fence]
                self.assertIs(h.ask(self, s.is_fence, ["house", "body", "one", "other", "thing"], values), True)
                for bigger in ((body[0] + 1, body[1]), (body[0], body[1] + 3)):
                    right = is_fence(house, bigger, one, other, fence)
                    self.assertIs(s.is_fence(house, bigger, one, other, fence), right)
                if min(body) > 1 or stairs != ():
                    small = stairs[0] if stairs else (1, 1)
                    small = tuple(item or 50 for item in small)
                    if h.stairs_has(stairs, small):
                        self.assertIs(s.is_fence(house, small, one, other, fence), False)
                self.changed_fences(house, body, one, other, fence)
                kinds[tuple(sorted({told[0] for told in fence[2].values()}))] = True
            if walls:
                self.assertIs(s.are_fences(house, one, other, dict(reversed(list(walls.items())))), True)
            h.never(self, lambda thing: s.are_fences(house, one, other, thing), [
                dict(list(walls.items())[1:]) if walls else None, {**walls, (77, 77): 1}, list(walls.items())])
        self.assertTrue({(), ("stairs",), ("block",)} <= set(kinds), kinds)

    def changed_fences(self, house, body, one, other, fence):
        lot, bars, stuck = fence
        near = [(thing, bars, stuck) for thing in (None, 1, "lot", {}, (None,), lot + (None,), lot[1:], lot + ((0, (777, 777)),), lot + lot, ([one],))]
        if lot[0][0] < 2:
            near.append((((bool(lot[0][0]), lot[0][1]),) + lot[1:], bars, stuck))
        near += [[lot, bars, stuck], (list(lot), bars, stuck), (lot, bars), (lot[::-1] + lot[:1], bars, stuck), (lot, [], stuck),
                (lot, bars, []), (lot + (other,), bars, stuck), (lot, {**bars, (one, other): 1, (other, one): 1}, stuck),
                (lot, bars, {**stuck, 9: ("stairs",)}), (lot, {**bars, True: 1}, stuck), (lot, bars, {**stuck, None: 1})]
        for key in bars:
            near.append((lot, {k: v for k, v in bars.items() if k != key}, stuck))
            near.append((lot, {**bars, key: ("block", 5, 5)}, stuck))
        for n in stuck:
            near.append((lot, bars, {k: v for k, v in stuck.items() if k != n}))
            for told in (None, 5, {}, ("stairs", 1), ("rock",) + stuck[n][1:] if len(stuck[n]) == 3 else ("block",), stuck[n] + (0,),
                         ("stair",), ["stairs"], "stairs", (), ("block", 2, 0), ("block", 0), ("block", 0, 12), ("block", 0, -1)):
                near.append((lot, bars, {**stuck, n: told}))
            told = stuck[n]
            if told[0] == "block":
                near.append((lot, bars, {**stuck, n: ("block", bool(told[1]), told[2])}))
            if n < 2:
                near.append((lot, bars, {bool(k) if k == n else k: v for k, v in stuck.items()}))
        h.never(self, lambda thing: s.is_fence(house, body, one, other, thing), near)

    def test_papers(self):
        dice = random.Random(1016)
        names = NAMES + ["stairs", "ways", "walls"]
        for house, one, other in scenes(1017, 25):
            if one == other:
                continue
            stairs = s.house_stairs(house, one, other)
            ways, walls = s.itineraries(house, one, other), s.fences(house, one, other)
            self.assertIs(h.ask(self, s.are_house_papers, names, [house, one, other, stairs, ways, walls]), True)
            # Whatever the papers are, they hold for no other staircase.
            for wrong in [(), o.ALL, stairs[1:], stairs[:-1], ((1, 1),)] + [h.random_stairs(dice, 4) for _ in range(5)]:
                if wrong != stairs:
                    some = {corner: ways.get(corner, list(ways.values())[0] if ways else []) for corner in wrong}
                    bars = {body: walls.get(body, list(walls.values())[0] if walls else 1) for body in notches(wrong)}
                    self.assertIs(s.are_house_papers(house, one, other, wrong, some, bars), False)
                    self.assertIs(s.are_house_papers(house, one, other, wrong, ways, walls), False)
            h.never(self, lambda thing: s.are_house_papers(house, one, other, thing, ways, walls), [list(stairs), None, 1])

    def test_by_hand(self):
        # Out of a closed pen by a lift, up and down again; the lift takes only what is narrow.
        pen = Drawing(h.pen(0, 0, 8, 8))
        house = House((pen, Drawing([])), (((0, (2, 2)), (1, (0, 0)), ((2, None),)), ((1, (50, 0)), (0, (20, 2)), ((None, 3),))))
        one, other = (0, (1, 1)), (0, (30, 30))
        self.assertEqual(stairs_between(pen, one[1], other[1]), ())
        self.assertEqual(s.house_stairs(house, one, other), ((2, 3),))
        self.assertEqual([kind for kind, _ in s.itineraries(house, one, other)[(2, 3)]], ["walk", "ride", "walk", "ride", "walk"])
        walls = s.fences(house, one, other)
        self.assertEqual(sorted(walls), [(1, 4), (3, 1)])
        self.assertEqual(walls[(3, 1)][2], {0: ("stairs",)})
        self.assertEqual(walls[(1, 4)][2], {1: ("stairs",)})
        # A lift where a body does not fit tells the block in which its spot lies.
        low = House((pen, Drawing([(1, 1, 9, 9)])), (((0, (2, 2)), (1, (0, 0)), o.ALL),))
        self.assertEqual(s.house_stairs(low, (0, (2, 2)), (1, (0, 0))), ((1, 5), (5, 1)))
        self.assertEqual(s.fences(low, (0, (2, 2)), (1, (0, 0)))[(2, 2)], (((0, (2, 2)),), {}, {0: ("block", 1, 0)}))
        # Equal lifts, and a lift on one floor.
        twice = House((pen,), (((0, (2, 2)), (0, (20, 2)), ((1, 2),)),) * 2)
        self.assertEqual(s.house_stairs(twice, one, other), ((1, 2),))
        self.assertEqual(sorted(s.fences(twice, one, other)[(2, 1)][2]), [0, 1])
        legs = s.itineraries(twice, one, other)[(1, 2)]
        self.assertEqual([kind for kind, _ in legs], ["walk", "ride", "walk"])
        self.assertIs(s.is_itinerary(twice, (1, 2), one, other, legs), True)
        # Where it can be walked and ridden, either does; who is too great to walk rides.
        low = House((Drawing(h.pen(-20, -1, 40, 21) + [(3, 2, 4, 20)]),), (((0, (0, 0)), (0, (9, 0)), ((None, 5),)),))
        ends = ((0, (0, 0)), (0, (9, 0)))
        self.assertEqual(s.house_stairs(low, *ends), ((3, 5), (30, 2)))
        self.assertEqual([[kind for kind, _ in legs] for legs in s.itineraries(low, *ends).values()], [["ride"], ["walk"]])
        self.assertIs(s.are_itineraries(low, *ends, s.itineraries(low, *ends)), True)
        self.assertEqual(s.house_stairs(twice, (0, (0, 0)), (0, (0, 0))), ())
        self.assertEqual(s.itineraries(twice, (0, (0, 0)), (0, (0, 0))), {})
        self.assertEqual(s.itineraries(twice, one, one), {(6, 6): []})
        self.assertIs(s.is_itinerary(twice, (7, 6), one, one, []), False)
        self.assertIs(s.is_itinerary(twice, (6, 6), one, one, [("walk", ((1, 1),))]), True)
        self.assertIs(s.is_itinerary(twice, (6, 6), one, one, [("walk", [])]), False)
        self.assertIs(s.is_itinerary(twice, (1, 1), (0, (2, 2)), (0, (20, 2)), [("ride", False)]), False)
        self.assertIs(s.is_itinerary(twice, (1, 1), (0, (2, 2)), (0, (20, 2)), [("ride", 1)]), True)
        self.assertIs(s.is_itinerary(twice, (1, 3), (0, (2, 2)), (0, (20, 2)), [("ride", 1)]), False)
        self.assertIs(s.is_itinerary(twice, (1, 1), (0, (2, 2)), (0, (20, 2)), [("ride", 2)]), False)

    def test_large_numbers(self):
        for house, one, other in scenes(1018, 12):
            grow = lambda place: (place[0], (h.TIMES * place[1][0], h.TIMES * place[1][1]))
            big = House(tuple(h.huge(floor)[0] for floor in house.floors), tuple(
                (grow(lift[0]), grow(lift[1]), h.huge_stairs(lift[2])) for lift in house.lifts))
            self.assertEqual(s.house_stairs(big, grow(one), grow(other)), h.huge_stairs(s.house_stairs(house, one, other)))

    def test_any_values(self):
        for value in h.any_values():
            self.assertIs(s.is_itinerary(TWO, (1, 1), *GOOD[1:], value), False)
            self.assertIs(s.is_itinerary(TWO, (1, 1), *GOOD[1:], [value]), False)
            self.assertIs(s.is_itinerary(TWO, (1, 1), GOOD[1], GOOD[1], value), value in ([], ()) and type(value) in (list, tuple))
            for function in (s.are_itineraries, s.are_fences):
                self.assertIs(function(*GOOD, value), False)
            self.assertIs(s.is_fence(TWO, (3, 1), *GOOD[1:], value), False)
            for k in range(3):
                papers = [s.house_stairs(*GOOD), s.itineraries(*GOOD), s.fences(*GOOD)]
                papers[k] = value
                self.assertIs(s.are_house_papers(*GOOD, *papers), h.same(value, papers[0]) and k == 0
                              and h.same(value, s.house_stairs(*GOOD)))

    def test_wrong_inputs(self):
        places = lambda thing: h.list_of(o.place_in(2))(thing) and 1 <= len(thing) <= 4
        for function in (s.stations, s.house_web):
            h.refuse(self, function, [HOUSE, ("places", BadPlaces, places)], [TWO, [GOOD[1]]])
            for value in ([], [GOOD[1]] * 5, [GOOD[1], (2, (0, 0))], {GOOD[1]: 1}, [list(GOOD[1])]):
                h.fails(self, BadPlaces, function, TWO, value)
        apart = ("other", BadPlace, o.place_in(2))
        for function in (s.house_stairs, s.itineraries):
            h.refuse(self, function, [HOUSE] + ENDS, GOOD)
        h.refuse(self, s.fences, [HOUSE, ENDS[0], apart], GOOD)
        h.refuse(self, s.are_itineraries, [HOUSE] + ENDS + [("thing", None, None)], GOOD + [1])
        h.refuse(self, s.are_fences, [HOUSE] + ENDS + [("thing", None, None)], GOOD + [1])
        corner = ("corner", BadCorner, lambda thing: h.corner(thing))
        h.refuse(self, s.is_itinerary, [HOUSE, corner] + ENDS + [("thing", None, None)], [TWO, (1, None)] + GOOD[1:] + [1])
        body = ("body", BadBody, h.body)
        h.refuse(self, s.is_fence, [HOUSE, body] + ENDS + [("thing", None, None)], [TWO, (1, 2)] + GOOD[1:] + [1])
        more = [("stairs", None, None), ("ways", None, None), ("walls", None, None)]
        h.refuse(self, s.are_house_papers, [HOUSE] + ENDS + more, GOOD + [(), {}, {}])
        for function, front, rest in ((s.fences, (), ()), (s.are_fences, (), (1,)), (s.is_fence, ((1, 1),), (1,)),
                                      (s.are_house_papers, (), (1, 1, 1))):
            h.fails(self, BadOther, function, TWO, *front, GOOD[1], GOOD[1], *rest)
            h.fails(self, BadPlace, function, TWO, *front, [GOOD[1]], [GOOD[1]], *rest)
        self.assertTrue(is_corner((1, None)))


if __name__ == "__main__":
    unittest.main()
