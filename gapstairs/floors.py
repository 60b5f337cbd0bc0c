"""Houses: floors joined by lifts (point 100)."""

from gapstairs.checks import is_index, is_number_pair
from gapstairs.drawings import Drawing
from gapstairs.errors import BadFloors, BadHouse, BadLifts, BadPlace
from gapstairs.rooms import room_of
from gapstairs.stairs import is_stairs

MOST_FLOORS = 4
MOST_LIFTS = 4


def are_floors(thing):
    """Whether any value is a tuple of one to four Drawings."""
    if not isinstance(thing, tuple) or not 1 <= len(thing) <= MOST_FLOORS:
        return False
    return all([isinstance(floor, Drawing) for floor in thing])


def is_place_among(many, thing):
    """Whether any value is a pair of the number of one of so many floors and a spot."""
    return isinstance(thing, tuple) and len(thing) == 2 and is_index(thing[0], many) and is_number_pair(thing[1])


def is_lift(many, thing):
    """Whether any value is a lift between so many floors."""
    if not isinstance(thing, tuple) or len(thing) != 3:
        return False
    one, other, stairs = thing
    if not is_place_among(many, one) or not is_place_among(many, other) or one == other:
        return False
    return is_stairs(stairs) and stairs != ()


def are_lifts(many, thing):
    if not isinstance(thing, tuple) or len(thing) > MOST_LIFTS:
        return False
    return all([is_lift(many, lift) for lift in thing])


class House:
    """Drawings one above another, and the lifts that join places of them."""

    def __init__(self, floors, lifts):
        if not are_floors(floors):
            raise BadFloors("floors are a tuple of one to four Drawings")
        if not are_lifts(len(floors), lifts):
            raise BadLifts("lifts are a tuple of at most four lifts")
        self.floors = floors
        self.lifts = lifts

    def __eq__(self, other):
        return isinstance(other, House) and self.floors == other.floors and self.lifts == other.lifts


def check_house(house):
    if not isinstance(house, House):
        raise BadHouse("house is a House")


def is_place_in(house, thing):
    """Whether any value is a place of what is surely a House."""
    return is_place_among(len(house.floors), thing)


def check_house_place(house, place):
    if not is_place_in(house, place):
        raise BadPlace("a place is a pair of the number of a floor and a spot")


def check_house_ends(house, one, other):
    """Refuse the parameters of many functions, in their order."""
    check_house(house)
    check_house_place(house, one)
    check_house_place(house, other)


def room_in(house, place):
    """house_room, for values that are surely such."""
    return room_of(house.floors[place[0]], place[1])


def is_place(house, thing):
    """Whether any value is a place of the house."""
    check_house(house)
    return is_place_in(house, thing)


def house_room(house, place):
    """The staircase of the bodies that fit at the place."""
    check_house(house)
    check_house_place(house, place)
    return room_in(house, place)
