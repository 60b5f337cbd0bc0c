import random
import unittest

from gapstairs import records as s
from gapstairs.drawings import Drawing
from gapstairs.errors import BadBody, BadDrawing, BadNotes, BadRow, BadSpot, BadStairs, NoBody, NotFree
from gapstairs.fits import fits
from gapstairs.machines import MOVES, SENSES, feels
from gapstairs.stairs import inside
from gapstairs.touching import gone, slid, touched
from tests import helpers as h
from tests.test_forms import ALL

FAR = 26
PEN = Drawing(h.pen(0, 0, 8, 8))


def is_record(thing):
    if type(thing) is not tuple or len(thing) != 3 or not h.pair_of_numbers(thing[0]):
        return False
    if not h.list_of(lambda move: type(move) is tuple and move in MOVES)(thing[1]) or type(thing[2]) not in (list, tuple):
        return False
    if len(thing[2]) != len(thing[1]) + 1:
        return False
    return all(type(told) is tuple and all(type(one) is str for one in told)
               and list(told) == [one for one in SENSES if one in told] for told in thing[2])


def is_notes(thing):
    if type(thing) not in (list, tuple) or len(thing) > 12:
        return False
    return all(type(note) is tuple and len(note) == 2 and h.drawing(note[0]) and is_record(note[1]) for note in thing)


NOTES = ("notes", BadNotes, is_notes)


def felt_by(drawing, body, spot, row):
    """What a body feels, by what it touches; None if it does not fit."""
    if not fits(drawing, body, spot):
        return None
    found = [touched(drawing, body, spot)]
    for move in row:
        if spot is not None:
            spot = gone(drawing, body, spot, move[1]) if move[0] == "go" else slid(drawing, body, spot, move[1], move[2])
        found.append(("lost",) if spot is None else touched(drawing, body, spot))
    return tuple(found)


def agrees(notes, body):
    return all(felt_by(drawing, body, told[0], told[1]) == tuple(told[2]) for drawing, told in notes)


def spans(sizes):
    """The fewest ranges for an ascending list of sizes, the last size standing for all greater ones."""
    found = []
    for size in sizes:
        if found and found[-1][1] == size - 1:
            found[-1][1] = size
        else:
            found.append([size, size])
    return [(low, None if high == FAR else high) for low, high in found]


def patches_of(held):
    columns = [tuple(b for b in range(1, FAR + 1) if (a, b) in held) for a in range(1, FAR + 1)]
    found, a = [], 1
    while a <= FAR:
        last = a
        while last < FAR and columns[last] == columns[a - 1]:
            last += 1
        found += [((a, low), (None if last == FAR else last, high)) for low, high in spans(columns[a - 1])]
        a = last + 1
    return found


def stopped_by_holes(dice, body):
    """A note of a wall with a hole in it, at which bodies are stopped or not: its sizes agree in parts."""
    gap = dice.randint(2, 7)
    wall = [(-9, -30, 0, 0), (-9, gap + 1, 0, 30), (-9, -30, -4, 30)]
    side, turned = ("left", False) if dice.random() < 0.6 else ("down", True)
    drawing = Drawing([(b, a, d, c) for a, b, c, d in wall] if turned else wall)
    return (drawing, s.record(drawing, body, (1, 5) if turned else (5, 1), [("go", side)] * dice.randint(1, 2)))


def random_notes(dice, many, span=6):
    """Notes of one body, for the most part."""
    body = (dice.randint(1, 4), dice.randint(1, 4))
    notes = []
    while len(notes) < many:
        if dice.random() < 0.06:
            notes.append((PEN, ((1, 1), (), (("right",),))))
            continue
        if dice.random() < 0.4:
            notes.append(stopped_by_holes(dice, body if dice.random() < 0.8 else (9, 9)))
            continue
        drawing = Drawing(h.random_blocks(dice, dice.randint(0, 4), span, 3)) if dice.random() < 0.7 else PEN
        spot = (dice.randint(-span, span), dice.randint(-span, span)) if drawing != PEN else (dice.randint(1, 3), dice.randint(1, 3))
        teller = body if dice.random() < 0.9 else (dice.randint(1, 4), dice.randint(1, 4))
        if fits(drawing, teller, spot):
            notes.append((drawing, s.record(drawing, teller, spot, [dice.choice(MOVES) for _ in range(dice.randint(0, 3))])))
    return notes


class Records(unittest.TestCase):
    def test_records(self):
        dice = random.Random(1121)
        for _ in range(200):
            drawing = Drawing(h.random_blocks(dice, dice.randint(0, 5), 5, 4))
            body, spot = (dice.randint(1, 4), dice.randint(1, 4)), (dice.randint(-6, 6), dice.randint(-6, 6))
            row = [dice.choice(MOVES) for _ in range(dice.randint(0, 4))]
            if not fits(drawing, body, spot):
                h.fails(self, NotFree, s.record, drawing, body, spot, row)
                continue
            made = h.ask(self, s.record, ["drawing", "body", "spot", "row"], [drawing, body, spot, row])
            self.assertTrue(h.same(made, (spot, tuple(row), felt_by(drawing, body, spot, row))))
            self.assertEqual(list(made[2]), feels(drawing, (body, spot), row))
            self.assertEqual(s.record(drawing, body, spot, tuple(row)), made)
            for other in [body, (1, 1), (dice.randint(1, 5), dice.randint(1, 5))]:
                notes = [(drawing, made)]
                self.assertIs(h.ask(self, s.agrees, ["notes", "body"], [notes, other]), agrees(notes, other))
                self.assertIs(s.agrees(((drawing, (spot, row, list(made[2]))),), other), agrees(notes, other))

    def test_patches(self):
        dice = random.Random(1122)
        sizes = {}
        for k in range(120):
            notes = random_notes(dice, dice.choice([0, 1, 1, 2, 3, 4]))
            held = {body for body in h.bodies_to(FAR) if agrees(notes, body)}
            told = h.ask(self, s.agreeing, ["notes"], [notes])
            self.assertTrue(h.same(told, patches_of(held)), (told, patches_of(held)))
            for body in h.bodies_to(6):
                self.assertIs(s.agrees(notes, body), body in held)
            self.assertEqual(told, sorted(told, key=lambda patch: patch[0]))
            self.bounds(dice, notes, held, told)
            sizes[min(len(told), 3)] = True
        self.assertEqual(len(sizes), 4, sizes)

    def bounds(self, dice, notes, held, told):
        bound, base = h.ask(self, s.bound, ["notes"], [notes]), h.ask(self, s.base, ["notes"], [notes])
        self.assertTrue(h.stairs(bound) and h.stairs(base))
        for body in h.bodies_to(12):
            self.assertIs(h.stairs_has(bound, body), any(a >= body[0] and b >= body[1] for a, b in held))
            self.assertIs(h.stairs_has(base, body), not any(a <= body[0] and b <= body[1] for a, b in held))
        for stairs in [(), ALL, bound, base, h.random_stairs(dice, 5), h.random_stairs(dice, 9)] + [(least,) for least, _ in told]:
            if not held:
                h.fails(self, NoBody, s.sure, notes, stairs)
                h.fails(self, NoBody, s.doubtful, notes, stairs)
                continue
            inner = sorted(body for body in held if h.stairs_has(stairs, body))
            outer = sorted(body for body in held if not h.stairs_has(stairs, body))
            wanted = True if not outer else False if not inner else None
            self.assertIs(h.ask(self, s.sure, ["notes", "stairs"], [notes, stairs]), wanted)
            self.assertEqual((wanted is True, wanted is False), (inside(bound, stairs), inside(stairs, base)))
            both = h.ask(self, s.doubtful, ["notes", "stairs"], [notes, stairs])
            self.assertTrue(h.same(both, (inner[0], outer[0]) if wanted is None else None))

    def test_more_notes(self):
        dice = random.Random(1123)
        for _ in range(20):
            notes = random_notes(dice, 3)
            stairs = h.random_stairs(dice, 4)
            known = None
            for many in range(len(notes) + 1):
                if not s.agreeing(notes[:many]):
                    break
                told = s.sure(notes[:many], stairs)
                self.assertTrue(known is None or told is known)
                known = told
                self.assertEqual(s.agreeing(notes[:many]), s.agreeing(notes[:many][::-1]))
                self.assertEqual(s.agreeing(notes[:many] * 2), s.agreeing(notes[:many]))

    def test_by_hand(self):
        # In a pen 6 wide and high: how far from the wall it is stopped tells its width.
        two = (PEN, ((1, 1), (), (("left", "down", "right"),)))
        self.assertEqual(s.agreeing([two]), [((6, 1), (6, 5))])
        self.assertEqual(s.agreeing([]), [((1, 1), (None, None))])
        self.assertEqual(s.agreeing([(PEN, ((1, 1), [], [("left", "down")]))]), [((1, 1), (5, 5))])
        self.assertEqual(s.agreeing([(PEN, ((1, 1), [], [("right",)]))]), [])
        self.assertEqual((s.bound([(PEN, ((1, 1), [], [()]))]), s.base([(PEN, ((1, 1), [], [()]))])), ((), ALL))
        free = (Drawing([]), ((0, 0), (("go", "up"), ("go", "left")), ((), ("lost",), ("lost",))))
        self.assertEqual(s.agreeing([free]), [((1, 1), (None, None))])
        self.assertEqual(s.agreeing([(Drawing([]), ((0, 0), [("go", "up")], [(), ()]))]), [])
        # Wide bodies that are stopped over a hole and narrow ones that fall in: two patches side by side.
        hole = Drawing([(-9, 0, 0, 2), (3, 0, 12, 2), (-9, -3, 12, -2)])
        row = [("go", "down")]
        self.assertEqual(s.agreeing([(hole, ((0, 5), row, [(), ("down",)]))]), [((1, 1), (3, 2)), ((4, 1), (None, None))])
        self.assertEqual(s.agreeing([(hole, ((0, 5), row, [(), ("left", "down", "right")]))]), [((3, 3), (3, None))])
        self.assertEqual(s.agreeing([(hole, ((0, 5), row, [(), ("left", "down")]))]), [((1, 3), (2, None))])
        big = (Drawing([(-999999999, 0, 999999999, 1)]), ((5, -4), [("go", "up")], [(), ("up",)]))
        self.assertEqual(s.agreeing([big]), [((1, 1), (None, 3))])

    def test_wrong_inputs(self):
        row = ("row", BadRow, h.list_of(lambda move: type(move) is tuple and move in MOVES))
        h.refuse(self, s.record, [("drawing", BadDrawing, h.drawing), ("body", BadBody, h.body), ("spot", BadSpot, h.pair_of_numbers), row],
                 [Drawing([]), (1, 1), (0, 0), [("go", "left")]])
        h.fails(self, BadRow, s.record, PEN, (1, 1), (0, 0), [("go", "left"), ("go",)])
        h.fails(self, NotFree, s.record, PEN, (1, 1), (0, 0), [("go", "left")])
        good = [(PEN, ((1, 1), (("go", "up"),), (("left", "down"), ("left", "up"))))]
        h.refuse(self, s.agrees, [NOTES, ("body", BadBody, h.body)], [good, (1, 1)])
        for function in (s.agreeing, s.bound, s.base):
            h.refuse(self, function, [NOTES], [good])
        for function in (s.sure, s.doubtful):
            h.refuse(self, function, [NOTES, ("stairs", BadStairs, h.stairs)], [good, ((2, 2),)])
            h.fails(self, BadStairs, function, [(PEN, ((1, 1), [], [()]))], ((0, 1),))
            h.fails(self, NoBody, function, [(PEN, ((1, 1), [], [()]))], ALL)
        drawing, (spot, moves, felt) = good[0]
        for note in ([drawing, good[0][1]], (drawing,), (drawing, list(good[0][1])), (None, good[0][1]), (drawing, (list(spot), moves, felt)),
                     (drawing, (spot, (("up",),), felt)), (drawing, (spot, moves, felt[:1])), (drawing, (spot, moves, felt + felt[:1])),
                     (drawing, (spot, moves, (felt[0], ["left"]))), (drawing, (spot, moves, (felt[0], ("up", "left")))),
                     (drawing, (spot, moves, (felt[0], "left"))), (drawing, (spot, dict(enumerate(moves)), felt)), (drawing, (spot, (), ())),
                     (drawing, ((1, True), moves, felt)), (drawing, (spot, moves, (felt[0], ("left", "left")))), (drawing, good[0][1] + (1,)),
                     (drawing, (spot, moves, {felt[0]: 0, felt[1]: 1})), (drawing, (spot, (), {(): 0})), (drawing, good[0][1], 1)):
            h.fails(self, BadNotes, s.agreeing, [note])
            h.fails(self, BadNotes, s.sure, good + [note], None)
        s.agreeing(good * 12)
        h.fails(self, BadNotes, s.agreeing, good * 13)
        h.fails(self, BadNotes, s.agreeing, {0: good[0]})


if __name__ == "__main__":
    unittest.main()
