"""What the tests of feeling share: cases, their moves one by one, and judges of values."""

import itertools
import random

from gapstairs.drawings import Drawing
from gapstairs.fits import fits
from gapstairs.touching import gone, slid, touched
from tests import helpers as h

SIDES = ("left", "down", "right", "up")
SENSES = ("left", "down", "right", "up", "lost")
GOES = [("go", side) for side in SIDES]
MOVES = GOES + [
    ("slide", side, along) for k, side in enumerate(SIDES) for along in SIDES
    if along in (SIDES[(k + 1) % 4], SIDES[k - 1])
]
ALL_SENSES = [
    tuple(sense for sense, yes in zip(SENSES, flags) if yes) for flags in itertools.product((0, 1), repeat=5)
]
BLOCK = Drawing([(0, 0, 4, 4)])
BY_HAND = [((1, 2), (-3, 1)), ((2, 5), (-3, 1))]


def behind(drawing, body, stand, move):
    """The stand behind a move, as point 80 tells it."""
    if stand == ():
        return ()
    there = gone(drawing, body, stand, *move[1:]) if move[0] == "go" else slid(drawing, body, stand, *move[1:])
    return () if there is None else there


def feel(drawing, body, stand, senses=SENSES):
    felt = ("lost",) if stand == () else touched(drawing, body, stand)
    return tuple(sense for sense in senses if sense in felt)


def felt_along(drawing, case, row, senses=SENSES):
    body, stand = case
    found = [feel(drawing, body, stand, senses)]
    for move in row:
        stand = behind(drawing, body, stand, move)
        found.append(feel(drawing, body, stand, senses))
    return found


def all_rows(most):
    """All rows of at most so many moves, the shortest first, those of one length move by move."""
    return [list(row) for many in range(most + 1) for row in itertools.product(MOVES, repeat=many)]


def scenes(seed, rounds, many=4, most=4):
    """Small drawings, each with some cases of bodies that fit at their spots, or are lost."""
    dice = random.Random(seed)
    found = [(BLOCK, list(BY_HAND)), (Drawing([]), [((1, 1), (0, 0)), ((2, 3), (5, 5))])]
    for drawing, one, other in h.two_spots(seed, rounds, most, 3):
        if len(drawing) > 5:
            continue
        cases = []
        for _ in range(40):
            body = (dice.randint(1, 4), dice.randint(1, 4))
            spot = dice.choice([one, one, other, (dice.randint(-6, 6), dice.randint(-6, 6))])
            if len(cases) < many and fits(drawing, body, spot):
                cases.append((body, () if dice.random() < 0.05 else spot))
        if cases:
            found.append((drawing, cases))
    return found


def move(thing):
    return thing in MOVES


def row(thing):
    return type(thing) in (list, tuple) and all(move(item) for item in thing)


def senses(thing):
    return thing in ALL_SENSES


def number_to_99(thing):
    return h.number(thing) and 0 <= thing <= 99


def stand_in(drawing, body):
    return lambda thing: type(thing) is tuple and (
        thing == () or h.pair_of_numbers(thing) and fits(drawing, body, thing))


def case_in(drawing):
    def judge(thing):
        return type(thing) is tuple and len(thing) == 2 and h.body(thing[0]) and stand_in(drawing, thing[0])(thing[1])
    return judge


def cases_in(drawing):
    return lambda thing: h.list_of(case_in(drawing))(thing) and len(thing) > 0


def doubt_in(drawing, cases):
    def judge(thing):
        if type(thing) is not tuple or thing == ():
            return False
        for pair in thing:
            if type(pair) is not tuple or len(pair) != 2 or not h.index_below(len(cases))(pair[0]):
                return False
            if not stand_in(drawing, cases[pair[0]][0])(pair[1]):
                return False
        return all(a[0] < b[0] for a, b in zip(thing, thing[1:]))
    return judge


def box(thing):
    if type(thing) is not tuple or len(thing) != 4 or not all(h.number(item) for item in thing):
        return False
    return thing[0] <= thing[2] and thing[1] <= thing[3]


def aim_for(many):
    def judge(thing):
        if type(thing) is not tuple or len(thing) != 2 or type(thing[1]) is not tuple or len(thing[1]) != many:
            return False
        if thing[0] == "reach":
            return all(box(item) for item in thing[1])
        return thing[0] == "tell" and all(h.number(item) for item in thing[1])
    return judge


def firsts(drawing, cases, by=SENSES):
    """The first doubts, by what is felt."""
    groups = {}
    for index, (body, stand) in enumerate(cases):
        groups.setdefault(feel(drawing, body, stand, by), []).append((index, stand))
    return {felt: tuple(groups[felt]) for felt in sorted(groups)}


def answered(drawing, cases, doubt, one, by=SENSES):
    """The answers of a doubt to one move, by what is felt."""
    groups = {}
    for index, stand in doubt:
        there = behind(drawing, cases[index][0], stand, one)
        groups.setdefault(feel(drawing, cases[index][0], there, by), []).append((index, there))
    return {felt: tuple(groups[felt]) for felt in sorted(groups)}


def done(aim, doubt):
    if aim[0] == "tell":
        return len({aim[1][index] for index, _ in doubt}) == 1
    return all(
        stand != () and aim[1][index][0] <= stand[0] <= aim[1][index][2]
        and aim[1][index][1] <= stand[1] <= aim[1][index][3] for index, stand in doubt)


class Web:
    """All doubts that come, with their answers, and the fewest moves that get each of them done."""

    def __init__(self, drawing, cases, aim, by=SENSES):
        self.firsts = firsts(drawing, cases, by)
        self.answers = {}
        waiting = list(self.firsts.values())
        while waiting:
            doubt = waiting.pop()
            if doubt in self.answers:
                continue
            self.answers[doubt] = [] if done(aim, doubt) else [
                list(answered(drawing, cases, doubt, one, by).values()) for one in MOVES]
            waiting += [answer for told in self.answers[doubt] for answer in told]
        self.least = {doubt: 0 for doubt in self.answers if done(aim, doubt)}
        level = 0
        while True:
            level += 1
            fresh = [
                doubt for doubt in self.answers if doubt not in self.least
                and any(all(answer in self.least for answer in told) for told in self.answers[doubt])]
            if not fresh:
                break
            self.least.update({doubt: level for doubt in fresh})

    def fewest(self):
        told = [self.least.get(doubt) for doubt in self.firsts.values()]
        return None if None in told else max(told)


def serves(drawing, cases, aim, course, by=SENSES):
    """Whether a plan serves: each case is led through it one by one, together with those that feel the same."""
    begin, steps = course

    def leads(doubt, number):
        if steps[number] == ("done",):
            return done(aim, doubt)
        one, branches = steps[number]
        told = answered(drawing, cases, doubt, one, by)
        return all(felt in dict(branches) and leads(told[felt], dict(branches)[felt]) for felt in told)

    told = firsts(drawing, cases, by)
    return all(felt in dict(begin) and leads(told[felt], dict(begin)[felt]) for felt in told)


def has(doubt, other):
    return set(other) <= set(doubt)


def closed(drawing, cases, aim, table, by=SENSES):
    """Whether a tuple of doubts is a closed table."""
    if len(set(table)) != len(table) or any(done(aim, doubt) for doubt in table):
        return False
    if not any(has(first, doubt) for first in firsts(drawing, cases, by).values() for doubt in table):
        return False
    return all(
        any(has(answer, other) for answer in answered(drawing, cases, doubt, one, by).values() for other in table)
        for doubt in table for one in MOVES)


def aims(dice, drawing, cases):
    """Some aims, of both kinds."""
    found = [("tell", tuple(dice.randint(0, 2) for _ in cases)), ("tell", tuple(range(len(cases))))]
    for span in (1, 4, 9):
        boxes = []
        for body, stand in cases:
            spots = [stand] + [behind(drawing, body, stand, one) for one in MOVES]
            x, y = dice.choice([spot for spot in spots if spot != ()] or [(0, 0)])
            boxes.append((x - dice.randint(0, span), y - dice.randint(0, span), x + dice.randint(0, span), y))
        found.append(("reach", tuple(boxes)))
    return found
