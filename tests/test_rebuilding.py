import random
import unittest

from gapstairs import rebuilding as s
from gapstairs.drawings import Drawing
from gapstairs.errors import BadDrawing, BadGoal, BadPromises, NotKept, TooMany
from gapstairs.passages import stairs_between
from gapstairs.stairs import inside, joined, met
from tests import helpers as h
from tests.test_forms import ALL

NAMES = ["drawing", "goal", "promises"]
PEN = h.pen(0, 0, 7, 7)


def is_promise(thing):
    if type(thing) is not tuple or len(thing) != 4 or not all(h.pair_of_numbers(spot) for spot in thing[:2]):
        return False
    return h.stairs(thing[2]) and h.stairs(thing[3]) and inside(thing[2], thing[3])


def are_promises(thing):
    return h.list_of(is_promise)(thing) and len(thing) <= 6


PROMISES = ("promises", BadPromises, are_promises)


def keeps(drawing, promises):
    for one, other, low, high in promises:
        held = h.held_set(stairs_between(drawing, one, other), 30)
        if not h.held_set(low, 30) <= held or not held <= h.held_set(high, 30):
            return False
    return True


def random_promise(dice, drawings):
    """A promise that all of the drawings keep, and few others."""
    one, other = (dice.randint(-4, 7), dice.randint(-4, 7)), (dice.randint(-4, 7), dice.randint(-4, 7))
    low, high = ALL, ()
    for drawing in drawings:
        stairs = stairs_between(drawing, one, other)
        low, high = met(low, stairs), joined(high, stairs)
    return (one, other, low if dice.random() < 0.7 else met(low, h.random_stairs(dice, 5)),
            high if dice.random() < 0.7 else joined(high, h.random_stairs(dice, 5)))


def graph(drawing, goal, promises):
    """The drawings to which steps lead, each with its fewest steps; all lots of blocks are looked at."""
    blocks = sorted(set(drawing.blocks + goal.blocks))
    lots = [tuple(b for k, b in enumerate(blocks) if lot >> k & 1) for lot in range(2 ** len(blocks))]
    kept = {lot for lot in lots if keeps(Drawing(lot), promises)}
    steps = {drawing.blocks: 0}
    waiting = [drawing.blocks]
    for here in waiting:
        for block in blocks:
            there = tuple(sorted(set(here) ^ {block}))
            if there in kept and there not in steps:
                steps[there] = steps[here] + 1
                waiting.append(there)
    return kept, steps


def scenes(seed, rounds):
    dice = random.Random(seed)
    for _ in range(rounds):
        pool = sorted(set((PEN if dice.random() < 0.6 else []) + h.random_blocks(dice, 2, 4, 4)))
        one = [block for block in pool if dice.random() < 0.6]
        other = [block for block in pool if dice.random() < 0.6]
        if dice.random() < 0.4:
            one, other = PEN[:3] + [(6, 0, 7, 4)], PEN[:3] + [(6, 3, 7, 7)]
        drawing, goal = Drawing(one), Drawing(other)
        yield dice, drawing, goal, [random_promise(dice, [drawing, goal]) for _ in range(dice.randint(0, 3))]


class Rebuilding(unittest.TestCase):
    def test_breaches(self):
        dice = random.Random(1131)
        kinds = {}
        for _ in range(250):
            drawing = Drawing(h.random_blocks(dice, dice.randint(0, 4), 4, 4) if dice.random() < 0.5 else PEN[:dice.randint(2, 4)])
            promises = []
            for _ in range(dice.randint(0, 3)):
                made = random_promise(dice, [drawing])
                if dice.random() < 0.4:
                    high = h.random_stairs(dice, 5)
                    made = made[:2] + (met(high, h.random_stairs(dice, 5)), high)
                promises.append(made)
            told = h.ask(self, s.breach, ["drawing", "promises"], [drawing, promises])
            wanted = None
            for k, (one, other, low, high) in enumerate(promises):
                held = stairs_between(drawing, one, other)
                wrong = [body for body in h.bodies_to(30) if (h.stairs_has(low, body) and not h.stairs_has(held, body))
                         or (not h.stairs_has(high, body) and h.stairs_has(held, body))]
                if wrong:
                    wanted = (k, wrong[0], h.stairs_has(held, wrong[0]))
                    break
            self.assertTrue(h.same(told, wanted), (told, wanted))
            self.assertIs(h.ask(self, s.keeps, ["drawing", "promises"], [drawing, promises]), wanted is None)
            kinds[wanted and wanted[2]] = True
        self.assertEqual(len(kinds), 3)

    def test_all_lots_of_blocks(self):
        seen = {}
        for dice, drawing, goal, promises in scenes(1132, 60):
            values = [drawing, goal, promises]
            kept, steps = graph(drawing, goal, promises)
            told = h.ask(self, s.rebuilding, NAMES, values)
            around = h.ask(self, s.moat, NAMES, values)
            self.assertIs(told is not None, goal.blocks in steps)
            self.assertIs(around is None, told is not None)
            if told is None:
                self.assertTrue(type(around) is list and [there.blocks for there in around] == sorted(steps))
                self.assertIs(h.ask(self, s.is_moat, NAMES + ["thing"], values + [around]), True)
                self.assertIs(s.is_moat(*values, tuple(around[::-1])), True)
                self.judged_moats(dice, values, around, kept)
            else:
                self.assertTrue(type(told) is list and len(told) == steps[goal.blocks] + 1)
                self.assertIs(h.ask(self, s.is_rebuilding, NAMES + ["thing"], values + [told]), True)
                self.judged_rebuildings(dice, values, told, kept)
            seen[(told is None, drawing == goal)] = True
        self.assertTrue({(True, False), (False, False), (False, True)} <= set(seen), seen)

    def judged_rebuildings(self, dice, values, told, kept):
        drawing, goal, promises = values
        blocks = sorted(set(drawing.blocks + goal.blocks))
        near = [told, tuple(told), told[1:], told[:-1], told + told[-1:], told[::-1], told + told[::-1] + told, told[:1] + told[2:]]
        for _ in range(6):
            walk = [drawing]
            for _ in range(dice.randint(1, 4)):
                walk.append(Drawing(sorted(set(walk[-1].blocks) ^ {dice.choice(blocks)})) if blocks else goal)
            near.append(walk + [goal] if dice.random() < 0.5 else walk)
            near.append(told[:-1] + walk[1:] + told[-1:])
        for thing in near:
            lots = [set(there.blocks) for there in thing]
            right = len(thing) > 0 and thing[0] == drawing and thing[-1] == goal and all(there.blocks in kept for there in thing)
            right = right and all(len(a ^ b) == 1 for a, b in zip(lots, lots[1:]))
            self.assertIs(s.is_rebuilding(*values, thing), right)
            self.assertIs(s.is_moat(*values, thing), False)
        h.never(self, lambda thing: s.is_rebuilding(*values, thing), [
            told + [None], [there.blocks for there in told], dict(enumerate(told)), None, [], told + [Drawing(drawing.blocks[:3] + ((90, 90, 91, 91),))] + told])

    def judged_moats(self, dice, values, around, kept):
        drawing, goal, promises = values
        blocks = sorted(set(drawing.blocks + goal.blocks))
        some = [Drawing(lot) for lot in kept]
        near = [around[1:], around[:-1], around + around[:1], around + [goal], some, [there for there in some if there != goal]]
        near += [around + [dice.choice(some)] for _ in range(4)]
        for thing in near:
            lots = {there.blocks for there in thing}
            right = len(lots) == len(thing) and drawing.blocks in lots and goal.blocks not in lots
            right = right and all(tuple(sorted(set(lot) ^ {block})) in lots or tuple(sorted(set(lot) ^ {block})) not in kept
                                  for lot in lots for block in blocks)
            self.assertIs(s.is_moat(*values, thing), right)
            self.assertIs(s.is_rebuilding(*values, thing), False)
        h.never(self, lambda thing: s.is_moat(*values, thing), [
            around + [None], [there.blocks for there in around], dict(enumerate(around)), None, [], around + [Drawing([(90, 90, 91, 91)])]])

    def test_facts(self):
        dice = random.Random(1133)
        for _ in range(25):
            pool = sorted(set(h.random_blocks(dice, 4, 4, 4)))
            drawing, goal = [Drawing([block for block in pool if dice.random() < 0.6]) for _ in range(2)]
            apart = len(set(drawing.blocks) ^ set(goal.blocks))
            one, other, low, high = random_promise(dice, [drawing, goal])
            for promise in ((one, other, (), high), (one, other, low, ALL)):
                self.assertEqual(len(s.rebuilding(drawing, goal, [promise])), apart + 1)
            # What is between two that keep it keeps it, too.
            small, great = Drawing(pool[:1]), Drawing(pool)
            promise = random_promise(dice, [small, great])
            for k in range(1, len(pool)):
                self.assertIs(s.keeps(Drawing(pool[:k]), [promise]), True)

    def test_by_hand(self):
        # A gate that is moved while who is inside stays shut in: the new one comes ahead of the old one's end.
        old, new = (6, 1, 7, 6), (5, 1, 6, 6)
        frame = PEN[:3]
        promise = [((2, 2), (9, 2), (), ())]
        told = s.rebuilding(Drawing(frame + [old]), Drawing(frame + [new]), promise)
        self.assertEqual([len(there) for there in told], [4, 5, 4])
        both = promise + [((2, 2), (2, 2), ((3, 4),), ALL)]
        self.assertEqual(len(s.rebuilding(Drawing(frame + [old]), Drawing(frame + [new]), both)), 3)
        # Somebody has to get through, but never one that is greater: two low gates that never both stand or go.
        left = [(6, 0, 7, 4), (6, 5, 7, 7)]
        right = [(6, 0, 7, 3), (6, 4, 7, 7)]
        way = [((2, 2), (9, 2), ((1, 1),), ((None, 1),))]
        start, end = Drawing(frame + left), Drawing(frame + right)
        self.assertEqual(stairs_between(start, (2, 2), (9, 2)), ((4, 1),))
        self.assertIsNone(s.rebuilding(start, end, way))
        self.assertTrue(start in s.moat(start, end, way) and end not in s.moat(start, end, way))
        self.assertEqual([there.blocks for there in s.rebuilding(start, start, way)], [start.blocks])
        self.assertIs(s.is_rebuilding(start, start, way, [start]), True)
        self.assertIs(s.is_moat(start, start, way, [start]), False)
        self.assertEqual([there.blocks for there in s.rebuilding(Drawing([]), Drawing([]), [])], [()])

    def test_large_numbers(self):
        for _, drawing, goal, promises in scenes(1134, 10):
            big = [tuple((h.TIMES * x, h.TIMES * y) for x, y in promise[:2]) + tuple(h.huge_stairs(told) for told in promise[2:]) for promise in promises]
            told, far = s.rebuilding(drawing, goal, promises), s.rebuilding(h.huge(drawing)[0], h.huge(goal)[0], big)
            self.assertEqual(told and len(told), far and len(far))

    def test_wrong_inputs(self):
        drawing, goal = Drawing(PEN), Drawing(PEN[1:])
        good = [((2, 2), (3, 3), (), ALL), ((0, 0), (1, 1), (), ((3, 3),))]
        first, second = ("drawing", BadDrawing, h.drawing), ("goal", BadGoal, h.drawing)
        for function in (s.keeps, s.breach):
            h.refuse(self, function, [first, PROMISES], [drawing, good])
        kept = lambda thing: h.drawing(thing)
        for function in (s.rebuilding, s.moat):
            h.refuse(self, function, [first, ("goal", BadGoal, kept), PROMISES], [drawing, goal, good[:1]])
        for function in (s.is_rebuilding, s.is_moat):
            h.refuse(self, function, [first, second, PROMISES, ("thing", None, None)], [drawing, goal, good[:1], 1])
            for value in h.any_values():
                self.assertIs(function(drawing, goal, good[:1], value), False)
        one, other, low, high = good[0]
        for promise in ([one, other, low, high], (one, other, low), (one, other, low, high, 1), (list(one), other, low, high), (one, 3, low, high),
                        (one, other, list(low), high), (one, other, low, list(high)), (one, other, ALL, ((9, 9),)), (one, other, ((2, 2),), ((2, 1), (1, 2)))):
            h.fails(self, BadPromises, s.keeps, drawing, [promise])
            h.fails(self, BadPromises, s.breach, drawing, (good[0], promise))
            h.fails(self, BadPromises, s.rebuilding, drawing, goal, [promise])
        self.assertIs(s.keeps(drawing, good[:1] * 6), True)
        h.fails(self, BadPromises, s.keeps, drawing, good[:1] * 7)
        self.kept_and_many()

    def kept_and_many(self):
        shut = ((2, 2), (9, 2), (), ())
        twelve = Drawing(PEN[1:] + [(20 + k, 0, 21 + k, 1) for k in range(8)])
        self.assertEqual(len(s.rebuilding(Drawing(PEN[:1]), twelve, [])), 13)
        many = Drawing(PEN + [(20 + k, 0, 21 + k, 1) for k in range(8)])
        more = Drawing(PEN + [(20 + k, 5, 21 + k, 6) for k in range(8)])
        for function, rest in ((s.rebuilding, ()), (s.moat, ()), (s.is_rebuilding, (1,)), (s.is_moat, (1,))):
            h.fails(self, NotKept, function, Drawing(PEN), Drawing(PEN[1:]), [shut], *rest)
            h.fails(self, NotKept, function, Drawing(PEN[1:]), Drawing(PEN), [shut], *rest)
            self.assertEqual(h.fails(self, TooMany, function, many, more, [shut], *rest).most, 12)
            h.fails(self, NotKept, function, many, Drawing(more.blocks[1:]), [shut], *rest)
            h.fails(self, BadPromises, function, many, more, [shut, 1], *rest)
            h.fails(self, BadGoal, function, many, 1, None, *rest)


if __name__ == "__main__":
    unittest.main()
