import random
import unittest

from gapstairs import floors as s
from gapstairs.drawings import Drawing
from gapstairs.errors import BadFloors, BadHouse, BadLifts, BadPlace
from gapstairs.fits import fits
from gapstairs.rooms import room
from tests import helpers as h
from tests import houses as o

TWO = s.House((Drawing([(0, 0, 4, 4)]), Drawing([])), (((0, (-3, 1)), (1, (0, 0)), ((2, 3),)),))


class Floors(unittest.TestCase):
    def test_houses(self):
        dice = random.Random(1001)
        sizes = {}
        for _ in range(60):
            house, known = o.random_house(dice)
            floors, lifts = house.floors, house.lifts
            again = h.ask(self, s.House, ["floors", "lifts"], [floors, lifts])
            self.assertTrue(again == house and type(again.floors) is tuple and type(again.lifts) is tuple)
            self.assertTrue(h.same((again.floors, again.lifts), (floors, lifts)))
            self.assertFalse(house == (floors, lifts))
            self.assertFalse(house != s.House(tuple(Drawing(floor.blocks[::-1]) for floor in floors), lifts))
            if lifts:
                self.assertFalse(house == s.House(floors, lifts[1:]))
            self.assertFalse(house == s.House(floors + floors[:1], lifts) if len(floors) < 4 else house == floors)
            for place in known:
                self.assertIs(h.ask(self, s.is_place, ["house", "thing"], [house, place]), True)
                told = h.ask(self, s.house_room, ["house", "place"], [house, place])
                self.assertEqual(told, room(floors[place[0]], place[1]))
                for body in h.bodies_to(5):
                    self.assertIs(h.stairs_has(told, body), fits(floors[place[0]], body, place[1]))
            sizes[(len(floors), len(lifts))] = True
        self.assertEqual({one for one, _ in sizes}, {1, 2, 3, 4})
        self.assertEqual({many for _, many in sizes}, {0, 1, 2, 3, 4})

    def test_the_order_of_lifts_tells(self):
        one, other = TWO.lifts[0], ((0, (1, 9)), (0, (2, 9)), o.ALL)
        self.assertFalse(s.House(TWO.floors, (one, other)) == s.House(TWO.floors, (other, one)))
        self.assertTrue(s.House(TWO.floors, (one, one)) == s.House(TWO.floors, (one, one)))
        self.assertFalse(s.House(TWO.floors, (one, one)) == TWO)
        self.assertFalse(s.House(TWO.floors, (one,)) == s.House(TWO.floors, ((one[1], one[0], one[2]),)))
        self.assertEqual(s.house_room(TWO, (0, (1, 1))), ())

    def test_what_is_judged(self):
        for value in h.any_values() + [(0, (0, 0)), (1, (9, 9)), (2, (0, 0)), (False, (0, 0)), (True, (0, 0)), (0, [0, 0]), [0, (0, 0)]]:
            self.assertIs(s.is_place(TWO, value), o.place_in(2)(value), value)

    def test_wrong_inputs(self):
        floor = TWO.floors[0]
        for value in h.any_values() + [(), [floor], (floor,) * 5, (floor, 1), (floor, ((0, 0, 1, 1),)), floor]:
            if not (type(value) is tuple and 1 <= len(value) <= 4 and all(h.drawing(item) for item in value)):
                h.fails(self, BadFloors, s.House, value, ())
                h.fails(self, BadFloors, s.House, value, None)
        good = TWO.lifts[0]
        for value in h.any_values() + [
                [good], (good,) * 5, (list(good),), (good[:2],), (good + (1,),), ((good[0], good[0], good[2]),),
                ((good[0], good[1], ()),), ((good[0], good[1], list(good[2])),), ((good[0], (2, (0, 0)), o.ALL),),
                (((False, (-3, 1)), good[1], o.ALL),), ((good[0], (True, (0, 0)), o.ALL),), ((good[0], (1, (0, False)), o.ALL),),
                ((good[0], good[1], ((True, 1),)),), (good, None)]:
            if not (type(value) is tuple and len(value) <= 4 and all(o.lift_in(2)(item) for item in value)):
                h.fails(self, BadLifts, s.House, TWO.floors, value)
        s.House(TWO.floors, (good,) * 4)
        s.House(TWO.floors[:1] * 4, ())
        house = ("house", BadHouse, o.house)
        h.refuse(self, s.is_place, [house, ("thing", None, None)], [TWO, 1])
        h.refuse(self, s.house_room, [house, ("place", BadPlace, o.place_in(2))], [TWO, (1, (0, 0))])


if __name__ == "__main__":
    unittest.main()
