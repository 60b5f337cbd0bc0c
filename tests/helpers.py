"""What the tests share: values of every kind, ways of asking, and answers found one by one."""

import copy
import random

from gapstairs.books import Book
from gapstairs.desk import Desk
from gapstairs.drawings import Drawing
from gapstairs.floors import House
from gapstairs.forms import Form
from gapstairs.grounds import Ground
from gapstairs.programs import Program
from gapstairs.webs import Web
from gapstairs.yard import Yard


# --- values of every kind -------------------------------------------------------------------

FORM = Form((0, (0, 0)), (0, (0, 0)), ((2, 3),), (1, 1), (0, 1))


def deep(kind, levels=80):
    value = 1
    for _ in range(levels):
        value = {"list": [value], "tuple": (value,), "dict": {1: value}, "key": {"a": (value, None)}}[kind]
    return value


def deep_key(levels=75):
    value = 1
    for _ in range(levels):
        value = (value,)
    return {value: 1}


def any_values():
    """New values of every kind that the document names."""
    return [
        0, 1, 2, 3, -1, 7, 999999999, -999999999, True, False, None, "", "a", "0", "(1, 1)",
        [], (), {}, [0], (0,), [1], (1,), (True,), (None,), [None], ["a"], ("a",),
        (1, 1), [1, 1], (True, 1), (1, True), (False, 0), (0, False), (True, True), (0, 1), (1, 0),
        (0, 0), (2, 3), (-1, 4), (1, -1), (None, 1), (1, None), (None, None), [None, None],
        ("a", "b"), (1, "1"), (1, 1, 1), (0, 1, 2), (2, 1, 0), (0, 1, 1), [0, 1, 2], (False, True, 2),
        (0, 0, 1, 1), [0, 0, 1, 1], (0, 0, True, True), (0, 0, 0, 1), (1, 1, 0, 0), (0, 0, 1, 1, 1),
        (0, 1, 2, 3), (None, None, None, None), (0, None, 1, None),
        ((1, 1),), [(1, 1)], [[1, 1]], ((1, True),), [(1, True)], ((None, None),), [(None, None)],
        ((1, 2), (2, 1)), ((2, 1), (1, 2)), ((1, 1), (1, 1)), ((1, 2), (2, 2)), [(1, 2), (2, 1)],
        ((1, 2), [2, 1]), ((None, 1), (2, 2)), ((1, None), (None, 1)), ((0, 1),), [(0, 1)], [(0, 1), (1, 1)],
        [(0, 1), (0, 1)], ((0, 1), (0, 2)), ((0, 0, 1, 1),), [(0, 0, 1, 1)], [[0, 0, 1, 1]],
        [(0, 0, 1, 1), (0, 0, 1, 1)], ((0, 1, ((0, 1),)),), [(0, 1, ((0, 1),))], ((0, 1, [(0, 1)]),),
        {0: 1}, {True: 1}, {"a": []}, {(1, 1): (1, 1)}, {(True, 1): (0, 1)}, {(0, 1): ((1, 1),)},
        {(0, 1): ()}, {(None, None): (0,)}, {(None, None): [0]}, {(1, 1): []}, {(0,): (0, 1, 2)},
        {(): ()}, {None: None}, {(0, 1): [(0, 1)]},
        deep("list"), deep("tuple"), deep("dict"), deep("key", 40), deep_key(),
        Drawing([]), Drawing([(0, 0, 1, 1)]), Ground(()), Ground(((0, 1, ((0, 1),)),)),
        Web(1, {}), Web(2, {(0, 1): ((1, 1),)}), [Drawing([])], (Web(1, {}),), {1: Ground(())},
        "left", "up", ("left",), ("left", "up"), ("spot", 0), ("go", "left"), [("go", "left")], (("call", "a"),),
        ("upright", 0, None, None), ("level", 1, 0, 2), ("upright", True, 0, 1), ("level", 1, 2, 0), ["level", 1, 0, 2],
        ("upright", 0, False, None), ("block", 0, 0), ("block", True, 0), ("ring", (0, 1, 2)), ("ring", [0, 1, 2]),
        ("never",), ["never"], ("ends", (0, 0)), ("lost", "left"), {(): ("block", 0, 0)}, {(): ("ring", (0, 1, 2))},
        {("upright", 0, None, None): 0}, {("upright", False, None, None): 0}, {("a", (0, 0)): (("never",), None)},
        {("a", (0, False)): (("never",), None)}, {0: {(0, 0): 0, (0, 1): 1}}, {"a": [("go", "left")]},
        {"a": [["go", "left"]]}, {"A": []}, {"a": {}}, Program({"a": []}, "a"), [Program({"b": [("go", "up")]}, "b")],
        (("spot", 0), ("spot", 0)), (("left", 0), ("low", 0)), (("spot", False), ("spot", 0)), [("spot", 0), ("spot", 0)],
        ((), [(0, 0)]), {(1, 1): ((), [(0, 0)])}, {(1, 1): {(): ("block", 0, 0)}}, {(1, 1): ("block", 0, 0)},
        ((1, 2), ()), ((True, 2), ()), [((1, 1), (0, 0)), ((1, 2), ())], (("left",), (0,) * 12), ((("left",), (0,) * 12),),
        (("left", "up"), ("up", "left"), ()), [("slide", "left", "up")], ("lost",), [()], ((),), [[]], ("up", "left"),
        House((Drawing([]),), ()), FORM, [FORM], (FORM, FORM), Book([FORM]), Yard(Drawing([])), Desk(Yard(Drawing([]))),
        (0, (0, 0)), (False, (0, 0)), (0, [0, 0]), [(0, (0, 0)), (0, (1, 1))], {(0, (0, 0)): [(1, 1)]}, {(False, (0, 0)): [(1, 1)]},
        [("to", (0, (0, 0)))], [("load", 1, -1)], [("load", True, 1)], [("times", 2, [("load", 0, 0)])], [("times", True, [])],
        [("walk", [(0, 0)])], [("ride", 0)], ("walk", ((0, 0),)), (((0, (0, 0)),), {}, {}), {0: ("stairs",)},
        ((0, 0), (), ((),)), ((0, 0), [], [()]), (Drawing([]), ((0, 0), (), ((),))), [(Drawing([]), ((0, 0), (), ((),)))],
        ((0, 0), (1, 1), (), ((None, None),)), [((0, 0), (1, 1), (), ((None, None),))], ("put", [0, 0, 1, 1]), ("drop", "A"),
        "undo", "begin", "none", "2:-,5:3", "gate", "first a\nto a\ndone\n", [[(0, 0)]], ((((0, 0),)),), [[(0, 0), (0, 1)]],
    ]


def number(thing):
    return type(thing) is int


def pair_of_numbers(thing):
    return type(thing) is tuple and len(thing) == 2 and all(number(item) for item in thing)


def body(thing):
    return pair_of_numbers(thing) and min(thing) >= 1


def size(thing):
    return number(thing) and thing >= 1


def corner(thing):
    return type(thing) is tuple and len(thing) == 2 and all(item is None or size(item) for item in thing)


def list_of(judge):
    return lambda thing: type(thing) in (list, tuple) and all(judge(item) for item in thing)


def stairs(thing):
    if type(thing) is not tuple or not all(corner(item) for item in thing):
        return False
    wide = [float("inf") if item[0] is None else item[0] for item in thing]
    high = [float("inf") if item[1] is None else item[1] for item in thing]
    return all(a < b for a, b in zip(wide, wide[1:])) and all(a > b for a, b in zip(high, high[1:]))


def block(thing):
    if type(thing) is not tuple or len(thing) != 4 or not all(number(item) for item in thing):
        return False
    return thing[0] < thing[2] and thing[1] < thing[3]


def drawing(thing):
    return type(thing) is Drawing


def ground(thing):
    return type(thing) is Ground


def web(thing):
    return type(thing) is Web


def program(thing):
    return type(thing) is Program


def side(thing):
    return type(thing) is str and thing in ("left", "down", "right", "up")


def from_zero(thing):
    return number(thing) and thing >= 0


def lane(thing):
    if type(thing) is not tuple or len(thing) != 4 or type(thing[0]) is not str:
        return False
    if thing[0] not in ("upright", "level") or not number(thing[1]):
        return False
    if not all(end is None or number(end) for end in thing[2:]):
        return False
    return None in thing[2:] or thing[2] <= thing[3]


def stops(thing):
    """Whether it is a list of spots, each two neighbours of which differ in just one number."""
    if type(thing) not in (list, tuple) or not thing or not all(pair_of_numbers(item) for item in thing):
        return False
    return all((a[0] == b[0]) + (a[1] == b[1]) == 1 for a, b in zip(thing, thing[1:]))


def index_below(many):
    return lambda thing: number(thing) and 0 <= thing < many


def lot_below(many):
    def judge(thing):
        if type(thing) is not tuple or not all(index_below(many)(item) for item in thing):
            return False
        return all(a < b for a, b in zip(thing, thing[1:]))
    return judge


# --- ways of asking -------------------------------------------------------------------------

def same(one, other):
    """Whether two values are equal and of the same kinds at every depth, dicts in the same order."""
    if type(one) is not type(other):
        return False
    if isinstance(one, (list, tuple)):
        return len(one) == len(other) and all(same(a, b) for a, b in zip(one, other))
    if isinstance(one, dict):
        return same(list(one.items()), list(other.items()))
    return one == other


def spoil(value):
    """Change all lists and dicts of a value, at every depth."""
    if isinstance(value, (list, tuple)):
        for item in value:
            spoil(item)
    if isinstance(value, dict):
        for item in value.values():
            spoil(item)
        value.clear()
        value["spoilt"] = True
    if isinstance(value, list):
        value.append("spoilt")


def snapshot(value):
    if isinstance(value, (list, tuple)):
        return type(value)(snapshot(item) for item in value)
    if isinstance(value, dict):
        return {key: snapshot(item) for key, item in value.items()}
    return value


def ask(case, function, names, values):
    """Ask by position and by name, twice; check that nothing passed or returned is shared or changed."""
    before = snapshot(values)
    first = function(*values)
    kept = snapshot(first)
    case.assertTrue(same(values, before), "what was passed is changed")
    spoil(first)
    again = function(**dict(zip(names, values)))
    case.assertTrue(same(again, kept), f"{function.__name__}: asked by name: {again} for {kept}")
    case.assertTrue(same(values, before), "what was passed is shared")
    return again


def fails(case, error, function, *values):
    """Whether just this error is raised; its class, not one below it."""
    try:
        told = function(*values)
    except error as e:
        case.assertIs(type(e), error)
        return e
    case.fail(f"{function.__name__} took {values!r}: {told!r}")


def refuse(case, function, params, good):
    """For params (name, error, judge): each wrong value is refused, the first wrong parameter first."""
    ask(case, function, [name for name, _, _ in params], good)
    wrong = []
    for k, (name, error, judge) in enumerate(params):
        bad = [] if judge is None else [value for value in any_values() if not judge(value)]
        wrong.append(bad)
        for value in bad:
            fails(case, error, function, *good[:k], value, *good[k + 1:])
        # A wrong parameter is refused whatever stands behind it.
        for value in bad[::7]:
            for later in range(k + 1, len(params)):
                for other in any_values()[::11]:
                    values = list(good)
                    values[k] = value
                    values[later] = other
                    fails(case, error, function, *values)


def judge_any(case, function, *front):
    """Whatever stands in the last place is judged, not refused."""
    for value in any_values():
        case.assertIs(type(function(*front, value)), bool)


def never(case, function, values, *front):
    """All of these values are judged as no such thing."""
    for value in values:
        case.assertIs(function(*front, value), False, f"{function.__name__} holds of {value!r}")


def copied(value):
    return copy.deepcopy(value)


# --- staircases one by one ------------------------------------------------------------------

def corner_has(one, held):
    return all(top is None or item <= top for top, item in zip(one, held))


def stairs_has(steps, held):
    return any(corner_has(one, held) for one in steps)


def bodies_to(most):
    return [(a, b) for a in range(1, most + 1) for b in range(1, most + 1)]


def held_set(steps, most):
    return {one for one in bodies_to(most) if stairs_has(steps, one)}


def all_stairs(most):
    """All staircases with items up to most, or None."""
    sizes = list(range(1, most + 1)) + [None]
    found = []

    def go(start, highest, steps):
        found.append(tuple(steps))
        for w in range(start, len(sizes)):
            for h in range(highest):
                go(w + 1, h, steps + [(sizes[w], sizes[h])])

    go(0, len(sizes), [])
    return found


def least_not(judge, most):
    """The least bodies within most that are not held."""
    out = [one for one in bodies_to(most) if not judge(one)]
    return [one for one in out if not any(o != one and o[0] <= one[0] and o[1] <= one[1] for o in out)]


def random_stairs(dice, most=5, endless=True):
    sizes = list(range(1, most + 1)) + ([None] if endless else [])
    many = dice.randint(1, 3)
    wide = sorted(dice.sample(range(len(sizes)), many))
    high = sorted(dice.sample(range(len(sizes)), many), reverse=True)
    return tuple((sizes[w], sizes[h]) for w, h in zip(wide, high))


def random_web(dice, places, chance=0.6, most=4):
    links = {}
    for i in range(places):
        for j in range(i + 1, places):
            if dice.random() < chance:
                links[(i, j)] = random_stairs(dice, most)
    return Web(places, links)


# --- drawings one by one --------------------------------------------------------------------

def random_blocks(dice, many, span=8, most=4):
    found = []
    while len(found) < many:
        left = dice.randint(-span, span)
        low = dice.randint(-span, span)
        made = (left, low, left + dice.randint(1, most), low + dice.randint(1, most))
        if made not in found:
            found.append(made)
    return found


def pen(left, low, right, high, thick=1):
    """Four blocks around a free inside."""
    return [
        (left, low, right, low + thick), (left, high - thick, right, high),
        (left, low, left + thick, high), (right - thick, low, right, high),
    ]


def lattice(bars, gap, thick=1):
    """So many upright bars and so many level ones, with a gap between each two."""
    step = gap + thick
    long = bars * step
    return (
        [(k * step, 0, k * step + thick, long) for k in range(bars)]
        + [(0, k * step, long, k * step + thick) for k in range(bars)]
    )


def cells_of(blocks):
    return {(x, y) for l, b, r, t in blocks for x in range(l, r) for y in range(b, t)}


def ground_cells(area):
    return {(x, y) for low, high, spans in area.bands for y in range(low, high)
            for left, right in spans for x in range(left, right)}


def covered(size, spot):
    return {(spot[0] + i, spot[1] + j) for i in range(size[0]) for j in range(size[1])}


def is_barred(blocks, size, x2, y2):
    """Whether the place (x2 / 2, y2 / 2) lies in a barred box."""
    a, b = size
    return any(2 * (l - a) < x2 < 2 * r and 2 * (o - b) < y2 < 2 * t for l, o, r, t in blocks)


class Flood:
    """All chambers of a body near the blocks, by walking from whole spot to whole spot."""

    def __init__(self, blocks, size, more=()):
        self.blocks = list(blocks)
        self.size = size
        xs = [x for l, _, r, _ in blocks for x in (l - size[0], r)] + [x for x, _ in more] or [0]
        ys = [y for _, o, _, t in blocks for y in (o - size[1], t)] + [y for _, y in more] or [0]
        self.left, self.right = min(xs) - 1, max(xs) + 1
        self.low, self.high = min(ys) - 1, max(ys) + 1
        self.home = {}
        for x in range(self.left, self.right + 1):
            for y in range(self.low, self.high + 1):
                if (x, y) not in self.home and not is_barred(self.blocks, size, 2 * x, 2 * y):
                    self.walk((x, y))

    def walk(self, start):
        self.home[start] = start
        waiting = [start]
        while waiting:
            x, y = waiting.pop()
            for dx, dy in ((1, 0), (-1, 0), (0, 1), (0, -1)):
                there = (x + dx, y + dy)
                if there in self.home or not self.left <= there[0] <= self.right:
                    continue
                if not self.low <= there[1] <= self.high:
                    continue
                if is_barred(self.blocks, self.size, 2 * there[0], 2 * there[1]):
                    continue
                if not is_barred(self.blocks, self.size, 2 * x + dx, 2 * y + dy):
                    self.home[there] = start
                    waiting.append(there)

    def moves_from(self, start):
        """The fewest straight moves from a spot to each spot of its chamber, all spots looked at."""
        if start not in self.home:
            return {}
        found = {start: 0}
        rim = [start]
        while rim:
            fresh = []
            for x, y in rim:
                for dx, dy in ((1, 0), (-1, 0), (0, 1), (0, -1)):
                    k = 1
                    # What is known for less moves need not be passed again, but what lies behind it may be new.
                    while (x + k * dx, y + k * dy) in self.home and not is_barred(
                            self.blocks, self.size, 2 * x + (2 * k - 1) * dx, 2 * y + (2 * k - 1) * dy):
                        there = (x + k * dx, y + k * dy)
                        if there not in found:
                            found[there] = found[(x, y)] + 1
                            fresh.append(there)
                        k += 1
            rim = fresh
        return found

    def outer(self):
        return self.home[(self.left, self.low)]

    def share(self, one, other):
        return one in self.home and other in self.home and self.home[one] == self.home[other]

    def closed(self):
        return sorted(set(self.home.values()) - {self.outer()})

    def spots(self):
        return sorted(self.home)


def small_scenes(seed, rounds=40, most=7):
    """Random small drawings, and some made by hand, each with some bodies."""
    dice = random.Random(seed)
    scenes = [
        ([], (1, 1)), ([(0, 0, 1, 1)], (1, 1)), ([(-2, -3, 4, 2)], (3, 2)),
        (pen(0, 0, 6, 6), (1, 1)), (pen(0, 0, 6, 6), (4, 4)), (pen(0, 0, 6, 6), (5, 4)),
        (pen(0, 0, 12, 12) + pen(3, 3, 9, 9), (2, 2)),
        (pen(0, 0, 14, 14) + pen(2, 2, 12, 12) + pen(4, 4, 10, 10), (1, 1)),
        (pen(0, 0, 14, 14) + pen(2, 2, 12, 12) + pen(4, 4, 10, 10), (2, 1)),
        (lattice(3, 2), (2, 2)), (lattice(3, 2), (1, 2)), (lattice(4, 2), (2, 1)),
        (lattice(4, 2), (3, 3)), (lattice(6, 1), (1, 1)),
        ([(0, 0, 2, 2), (2, 2, 4, 4), (4, 0, 6, 2), (2, -2, 4, 0)], (1, 1)),
        ([(0, 0, 2, 2), (2, 2, 4, 4), (4, 0, 6, 2), (2, -2, 4, 0)], (2, 2)),
        ([(0, 0, 2, 2), (2, 2, 4, 4), (4, 0, 6, 2), (2, -2, 4, 0)], (3, 2)),
        ([(0, 0, 6, 6), (1, 1, 2, 2), (0, 0, 6, 1), (5, 0, 6, 6)], (2, 3)),
    ]
    for _ in range(rounds):
        many = dice.randint(1, most)
        blocks = random_blocks(dice, many, dice.choice([3, 5, 7]), dice.choice([2, 3, 6]))
        scenes.append((blocks, (dice.randint(1, 5), dice.randint(1, 5))))
    return scenes


def leaky(dice):
    """A pen with gaps between its walls, and perhaps a block in it."""
    wide, high = dice.randint(7, 10), dice.randint(7, 10)
    a, b, c, d = [dice.randint(0, 3) for _ in range(4)]
    walls = [(0, 0, wide - a, 1), (a, high - 1, wide - b, high), (0, c, 1, high - 1), (wide - 1, d, wide, high - c)]
    x, y = dice.randint(2, wide - 3), dice.randint(2, high - 3)
    return walls + [(x, y, x + 1, y + 1)][:dice.randint(0, 1)]


def two_spots(seed, rounds=20, most=5, span=4):
    """Small drawings, each with two spots: some made by hand, the others at random."""
    dice = random.Random(seed)
    trap = [(0, 0, 12, 1), (0, 9, 12, 10), (0, 0, 1, 10), (11, 0, 12, 6), (4, 3, 6, 9), (8, 1, 9, 5)]
    maze = [
        (0, 0, 20, 1), (0, 9, 20, 10), (0, 0, 1, 10), (19, 0, 20, 10),
        (4, 0, 5, 7), (8, 4, 9, 10), (12, 0, 13, 6), (16, 3, 17, 10),
    ]
    scenes = [
        (maze, (1, 1), (18, 8)), (maze, (9, 8), (1, 1)),
        ([], (0, 0), (3, -4)), ([], (2, 2), (2, 2)), ([(0, 0, 2, 3)], (-4, 1), (5, 1)), ([(0, 0, 2, 3)], (-4, 1), (1, 1)),
        ([(0, 0, 2, 3)], (1, 1), (1, 1)), ([(0, 0, 2, 3)], (2, 3), (2, 3)), ([(0, 0, 2, 2), (3, 3, 5, 5)], (3, 1), (0, 4)),
        (pen(0, 0, 6, 6), (1, 1), (2, 3)), (pen(0, 0, 6, 6), (1, 1), (9, 9)), (pen(0, 0, 6, 6)[1:], (1, 2), (9, 9)),
        (trap, (1, 1), (14, 7)), (trap, (6, 3), (1, 7)), (lattice(2, 2), (1, 1), (4, 4)),
        ([(0, 0, 4, 1), (0, 3, 4, 4), (5, 0, 9, 1), (5, 4, 9, 5)], (0, 1), (9, 1)),
        ([(0, 0, 6, 6), (1, 1, 2, 2), (0, 0, 6, 1), (5, 0, 6, 6)], (6, 2), (-3, 2)),
    ]
    for _ in range(rounds):
        if dice.random() < 0.4:
            blocks = leaky(dice)
            inside = [(x, y) for x in range(1, 5) for y in range(1, 5) if not is_barred(blocks, (1, 1), 2 * x, 2 * y)]
            scenes.append((blocks, dice.choice(inside), (dice.choice([-3, 4, 12]), dice.choice([-2, 11]))))
        else:
            blocks = random_blocks(dice, dice.randint(1, most), span, dice.choice([2, 3, 5]))
            free = Flood(blocks, (1, 1)).spots()
            scenes.append((blocks, dice.choice(free), dice.choice(free)))
    return [(Drawing(blocks), one, other) for blocks, one, other in scenes]


TIMES = 30000001


def huge(drawing, *spots):
    """The drawing and the spots with numbers of up to nine digits, of either sign."""
    blocks = [tuple(TIMES * item for item in block) for block in drawing.blocks]
    return (Drawing(blocks),) + tuple((TIMES * x, TIMES * y) for x, y in spots)


def huge_stairs(steps):
    return tuple(tuple(item and TIMES * item for item in one) for one in steps)


def sizes_for(drawing, spots):
    """All bodies of the gap grid and some beyond it, found on their own way."""
    found = []
    for axis in (0, 1):
        starts = [block[axis + 2] for block in drawing.blocks] + [spot[axis] for spot in spots]
        among = {block[axis] - start for block in drawing.blocks for start in starts}
        among = sorted(number for number in among if number >= 1)
        last = among[-1] if among else 0
        found.append(among + [last + 1, last + 3])
    return [(a, b) for a in found[0] for b in found[1]]
