"""Houses for the tests, and bodies carried over floors and lifts one by one."""

from gapstairs.chambers import same_chamber
from gapstairs.drawings import Drawing
from gapstairs.fits import fits
from gapstairs.floors import House
from tests import helpers as h

ALL = ((None, None),)


def scene_floor(dice):
    kind = dice.randrange(4)
    if kind == 0:
        return Drawing([])
    if kind == 1:
        left, low = dice.randint(-4, 0), dice.randint(-4, 0)
        blocks = h.pen(left, low, left + dice.randint(5, 7), low + dice.randint(5, 7))
        if dice.random() < 0.6:
            k = dice.randrange(4)
            l, b, r, t = blocks[k]
            blocks[k] = (l, b, r - 2, t) if k < 2 else (l, b, r, t - 2)
        return Drawing(blocks)
    return Drawing(h.random_blocks(dice, dice.randint(1, 4), 5, 4))


def random_place(dice, floors):
    return (dice.randrange(floors), (dice.randint(-4, 4), dice.randint(-4, 4)))


def random_house(dice, floors=None):
    drawings = tuple(scene_floor(dice) for _ in range(floors or dice.randint(1, 4)))
    many = len(drawings)
    known = [random_place(dice, many) for _ in range(5)]
    lifts = []
    for _ in range(dice.randint(0, 4)):
        one, other = dice.choice(known), dice.choice(known)
        if one != other:
            lifts.append((one, other, dice.choice([ALL, h.random_stairs(dice, 4), h.random_stairs(dice, 4)])))
    if lifts and len(lifts) < 4 and dice.random() < 0.2:
        lifts.append(lifts[0])
    return House(drawings, tuple(lifts)), known


def reached(house, body, start):
    """The stations, with those asked for, that a body reaches: it is carried as far as it gets."""
    if not fits(house.floors[start[0]], body, start[1]):
        return []
    ends = [end for lift in house.lifts for end in lift[:2]]
    found = [start]
    for here in found:
        for there in ends:
            if there in found or there[0] != here[0] or not fits(house.floors[there[0]], body, there[1]):
                continue
            if same_chamber(house.floors[here[0]], body, here[1], there[1]):
                found.append(there)
        for lift in house.lifts:
            for one, other in (lift[:2], lift[1::-1]):
                if one == here and other not in found and h.stairs_has(lift[2], body):
                    if fits(house.floors[other[0]], body, other[1]):
                        found.append(other)
    return found


def gets(house, body, one, other):
    here = reached(house, body, one)
    if other in here:
        return True
    if not fits(house.floors[other[0]], body, other[1]):
        return False
    return any(
        at[0] == other[0] and same_chamber(house.floors[at[0]], body, at[1], other[1]) for at in here)


def place_in(many):
    return lambda thing: (
        type(thing) is tuple and len(thing) == 2 and h.index_below(many)(thing[0]) and h.pair_of_numbers(thing[1]))


def lift_in(many):
    def judge(thing):
        if type(thing) is not tuple or len(thing) != 3 or not all(place_in(many)(end) for end in thing[:2]):
            return False
        return thing[0] != thing[1] and h.stairs(thing[2]) and thing[2] != ()
    return judge


def house(thing):
    return type(thing) is House
