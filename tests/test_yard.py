import random
import unittest

from gapstairs import errors as e
from gapstairs.drawings import Drawing
from gapstairs.passages import stairs_between
from gapstairs.bars import bar_for
from gapstairs.records import sure
from gapstairs.rebuilding import is_rebuilding, rebuilding
from gapstairs.seasons import stairs_through
from gapstairs.stairs import inside, notches
from gapstairs.takestairs import binding
from gapstairs.yard import Yard
from tests import helpers as h
from tests import yards as o
from tests.test_forms import ALL
from tests.yards import PEN, WORDS, Record, Stop


def do(yard, deed):
    return getattr(yard, deed[0])(*deed[1:])


def state(yard):
    return (yard.drawing().blocks, yard.names(), yard.promises(), [(d.blocks, told) for d, told in yard.notes()],
            [d.blocks for d in yard.calendar()], yard.log(), len(yard))


def state_of(record, log):
    return (record.past[-1].blocks, dict(sorted(record.spots.items())), dict(sorted(record.sworn.items())),
            [(d.blocks, told) for d, told in record.felt], [d.blocks for d in record.past], log, len(log))


def changed(before, now):
    words = sorted(set(before.spots) & set(now.spots))
    pairs = [(one, other) for one in words for other in words if one < other]
    return {pair: (before.stairs(*pair), now.stairs(*pair)) for pair in pairs if before.stairs(*pair) != now.stairs(*pair)}


def filled(drawing=None):
    """A yard with two words on both sides of a gate."""
    yard = Yard(drawing or Drawing(PEN[:3] + [(6, 0, 7, 4)]))
    yard.name("inn", (2, 2))
    yard.name("out", (9, 2))
    return yard


def made_by(deeds, drawing=None):
    """A filled yard with some deeds done."""
    yard = filled(drawing)
    for deed in deeds:
        do(yard, deed)
    return yard


class Yards(unittest.TestCase):
    def check(self, yard, records, log):
        self.assertTrue(h.same(state(yard), state_of(records[-1], log)))
        told = yard.changed()
        self.assertTrue(h.same(told, changed(*records[-2:]) if len(records) > 1 else {}))

    def questions(self, dice, yard, record):
        for _ in range(2):
            one, other = dice.choice(WORDS[:6]), dice.choice(WORDS[:6])
            if one not in record.spots or other not in record.spots:
                for ask in (yard.stairs_of, yard.sure, yard.lived):
                    h.fails(self, e.NoName, ask, one, other)
                continue
            stairs = h.ask(self, yard.stairs_of, ["one", "other"], [one, other])
            self.assertEqual(stairs, record.stairs(one, other))
            self.assertIs(yard.sure(one, other), sure(record.felt, stairs))
            if len(record.past) > 40:
                self.assertEqual(h.fails(self, e.TooMany, yard.lived, one, other).most, 40)
            elif len(record.past) < 12:
                self.assertEqual(yard.lived(one, other), stairs_through(record.past, record.spots[one], record.spots[other]))

    def test_a_record_kept_beside(self):
        raised = {}
        for seed in range(45):
            dice = random.Random(1141 + seed)
            drawing = Drawing(PEN[:dice.randint(0, 4)] if seed % 3 else h.random_blocks(dice, dice.choice([3, 11, 12]), 5, 3))
            yard, records, log, undone = Yard(drawing), [Record(drawing)], [], []
            for _ in range(40):
                kind = dice.random()
                if kind < 0.1:
                    if log:
                        undone.append((log.pop(), records.pop()))
                        self.assertIsNone(yard.undo())
                    else:
                        h.fails(self, e.NothingDone, yard.undo)
                elif kind < 0.18:
                    if undone:
                        deed, record = undone.pop()
                        log.append(deed)
                        records.append(record)
                        self.assertIsNone(yard.redo())
                    else:
                        h.fails(self, e.NothingUndone, yard.redo)
                else:
                    deed = o.random_deed(dice, records[-1])
                    if self.one_deed(yard, deed, records, log, raised):
                        undone = []
                self.check(yard, records, log)
            self.questions(dice, yard, records[-1])
            self.all_states(yard, records, log, undone)
        self.assertTrue({None, e.Named, e.NoName, e.Promised, e.BadBlock, e.BadBy, e.Broken, e.BadOther, e.BadHigh, e.NoPromise, e.TooMany,
                         e.NoBody, e.BadFelt, e.Failed} <= set(raised), raised)

    def one_deed(self, yard, deed, records, log, raised):
        """Do a deed on both; whether it can be done."""
        later = records[-1].copy()
        kept = h.snapshot(deed)
        try:
            later.do(deed)
        except Stop as stop:
            error = h.fails(self, stop.error, getattr(yard, deed[0]), *deed[1:])
            for name, value in stop.told.items():
                if name != "cause":
                    self.assertTrue(h.same(getattr(error, name), value), (deed, name))
            self.assertIs(type(error.__cause__), stop.told.get("cause", type(None)))
            raised[stop.error] = True
            return False
        self.assertIsNone(do(yard, deed))
        self.assertTrue(h.same(deed, kept))
        h.spoil(deed)
        records.append(later)
        log.append(o.logged(kept))
        raised[None] = True
        return True

    def all_states(self, yard, records, log, undone):
        """Back to the beginning and on to the end again, through all states."""
        end = state(yard)
        for k in range(len(log), 0, -1):
            self.assertTrue(h.same(state(yard), state_of(records[k], log[:k])))
            yard.undo()
        self.assertTrue(yard == Yard(records[0].past[0]) and len(yard) == 0)
        h.fails(self, e.NothingDone, yard.undo)
        for k in range(1, len(log) + 1):
            yard.redo()
            self.assertTrue(h.same(state(yard), state_of(records[k], log[:k])))
        self.assertTrue(h.same(state(yard), end))
        for _ in undone:
            yard.redo()
        h.fails(self, e.NothingUndone, yard.redo)

    def test_what_is_told_is_new(self):
        yard = filled()
        yard.promise("out", "inn", (), ALL)
        yard.note("inn", [], [()])
        before = state(yard)
        for told in (yard.names(), yard.promises(), yard.notes(), yard.calendar(), yard.log(), yard.changed()):
            h.spoil(told)
        self.assertTrue(h.same(state(yard), before))
        deeds = [("note", "inn", [("go", "up")], [(), ("up",)])]
        yard.attempt(deeds)
        h.spoil(deeds[0])
        deeds.append(1)
        self.assertEqual(yard.log()[-1], ("attempt", (("note", "inn", (("go", "up"),), ((), ("up",))),)))
        self.assertEqual(list(yard.promises()), [("inn", "out")])
        self.assertEqual(yard.log()[2], ("promise", "out", "inn", (), ALL))

    def test_equal_whatever_was_done(self):
        one, other = filled(), filled()
        self.assertTrue(one == other and not one != other)
        one.put((20, 20, 21, 21))
        self.assertFalse(one == other)
        one.take((20, 20, 21, 21))
        self.assertTrue(one == other and len(one) == 4 and len(other) == 2 and one.calendar() != other.calendar())
        for change in (lambda y: y.name("more", (0, 0)), lambda y: y.promise("inn", "out", (), ALL), lambda y: y.note("inn", [], [()]),
                       lambda y: y.take((6, 0, 7, 4)), lambda y: y.slide((6, 0, 7, 4), "up", 1)):
            change(one)
            self.assertFalse(one == other)
            one.undo()
            self.assertTrue(one == other)
        one.drop("inn")
        one.name("inn", (2, 3))
        self.assertFalse(one == other)
        for value in h.any_values() + [one.drawing(), one.log()]:
            self.assertFalse(one == value)
        start = Drawing(PEN)
        later = Yard(start)
        later.take(PEN[0])
        self.assertTrue(later == Yard(Drawing(PEN[1:])) and Yard(Drawing(PEN[1:])) == later)
        self.assertFalse(later == Yard(start) or Yard(start) == later)
        also = Yard(Drawing(PEN[:3]))
        also.put(PEN[3])
        also.take(PEN[0])
        self.assertTrue(later == also and also == later)

    def test_changed(self):
        yard = filled()
        self.assertEqual(Yard(Drawing([])).changed(), {})
        self.assertEqual(yard.changed(), {})
        yard.put((6, 4, 7, 5))
        self.assertEqual(yard.changed(), {("inn", "out"): (((4, 2),), ((4, 1),))})
        yard.attempt([("take", (6, 4, 7, 5)), ("drop", "inn"), ("name", "inn", (2, 3))])
        self.assertEqual(yard.changed(), {("inn", "out"): (((4, 1),), ((4, 2),))})
        yard.name("aaa", (9, 9))
        self.assertEqual(yard.changed(), {})
        yard.attempt([("drop", "inn"), ("put", (6, 4, 7, 6))])
        self.assertEqual(yard.changed(), {})
        yard.undo()
        self.assertEqual(yard.changed(), {})
        yard.undo()
        self.assertEqual(len(yard.changed()), 1)

    def test_puts_lower_and_takes_raise(self):
        dice = random.Random(1142)
        bars = 0
        for _ in range(60):
            yard = filled(Drawing(sorted(set(PEN[:3] + h.random_blocks(dice, dice.randint(1, 4), 5, 3)))))
            for _ in range(4):
                block = (h.random_blocks(dice, 1, 5, 3) + [(6, 1, 7, dice.randint(2, 6))])[dice.randint(0, 1)]
                if block in yard.drawing():
                    yard.take(block)
                    self.assertTrue(all(inside(before, now) for before, now in yard.changed().values()))
                    continue
                yard.put(block)
                now = yard.drawing()
                i = now.blocks.index(block)
                for (one, other), (before, later) in yard.changed().items():
                    self.assertTrue(inside(later, before))
                    ends = (yard.names()[one], yard.names()[other])
                    fresh = [notch for notch in notches(later) if h.stairs_has(before, notch)]
                    self.assertEqual(fresh, list(binding(now, *ends)[i]))
                    for notch in fresh:
                        bar = bar_for(now, notch, *ends)
                        self.assertTrue(bar[0] == "block" and bar[2] == i or bar[0] == "ring" and i in bar[1])
                        bars += 1
        self.assertGreater(bars, 10)

    def test_notes_stay_sure(self):
        # A False that is sure stays sure when a block is put, a True when one is taken.
        row = [("go", "right"), ("go", "up")]
        for last, known in ((("right", "up"), False), (("up",), True)):
            yard = filled()
            self.assertIsNone(yard.sure("inn", "out"))
            yard.note("inn", row[:1], [(), ("right",)])
            self.assertIsNone(yard.sure("inn", "out"))
            yard.note("inn", row, [(), ("right",), last])
            self.assertIs(yard.sure("inn", "out"), known)
            for deed in ((("take", (0, 6, 7, 7)), ("take", (6, 0, 7, 4))) if known else (("put", (6, 4, 7, 5)), ("put", (6, 4, 7, 6)))):
                do(yard, deed)
                self.assertIs(yard.sure("inn", "out"), known)

    def test_broken_promises(self):
        yard = filled()
        yard.promise("out", "inn", ((2, 1),), ((4, 2),))
        told = h.fails(self, e.Broken, yard.put, (6, 4, 7, 6))
        self.assertEqual((told.one, told.other, told.body), ("inn", "out", (1, 1)))
        told = h.fails(self, e.Broken, yard.take, (6, 0, 7, 4))
        self.assertEqual((told.one, told.other, told.body), ("inn", "out", (1, 3)))
        # While it slides up, at some moment it lets nobody through, though it does in the end.
        told = h.fails(self, e.Broken, yard.slide, (6, 0, 7, 4), "up", 3)
        self.assertEqual(told.body, (1, 1))
        told = h.fails(self, e.Broken, yard.slide, (6, 0, 7, 4), "down", 1)
        self.assertEqual(told.body, (1, 3))
        yard.name("aaa", (30, 30))
        told = h.fails(self, e.Broken, yard.promise, "inn", "aaa", ((1, 1), ), ((1, 1),))
        self.assertEqual((told.one, told.other, told.body), ("aaa", "inn", (1, 2)))
        yard.promise("aaa", "inn", ((4, 2),), ((4, 2),))
        told = h.fails(self, e.Broken, yard.put, (6, 5, 7, 6))
        self.assertEqual((told.one, told.other, told.body), ("aaa", "inn", (1, 2)))
        # Where several would be broken, the first pair of words is told, whenever it was promised.
        for deed in (("put", (6, 4, 7, 6)), ("take", (6, 0, 7, 4)), ("slide", (6, 0, 7, 4), "up", 2)):
            told = h.fails(self, e.Broken, do, yard, deed)
            self.assertEqual((told.one, told.other), ("aaa", "inn"))
        # In the place of one that stood, for both orders.
        yard.promise("inn", "aaa", (), ALL)
        self.assertEqual(yard.promises(), {("aaa", "inn"): ((), ALL), ("inn", "out"): (((2, 1),), ((4, 2),))})
        yard.put((6, 5, 7, 6))
        yard.release("out", "inn")
        self.assertEqual(list(yard.promises()), [("aaa", "inn")])

    def test_between_whole_moments(self):
        # In a slit 2 high a block 1 high slides: halfway there is no way beside it.
        yard = filled(Drawing(PEN[:3] + [(6, 1, 7, 3), (6, 5, 7, 6), (6, 3, 7, 4)]))
        yard.promise("inn", "out", ((1, 1),), ALL)
        told = h.fails(self, e.Broken, yard.slide, (6, 3, 7, 4), "up", 1)
        self.assertEqual((told.one, told.other, told.body), ("inn", "out", (1, 1)))
        yard.attempt([("release", "inn", "out"), ("slide", (6, 3, 7, 4), "up", 1), ("promise", "inn", "out", ((1, 1),), ALL)])
        self.assertEqual(yard.changed(), {})
        # What is barred at first and in the end may get through on the way: out of the one slit, not yet in the other.
        walls = [(x, low, x + 1, high) for x in (6, 10) for low, high in ((1, 3), (4, 6))]
        shut = Yard(Drawing([(0, 0, 11, 1), (0, 6, 11, 7), (0, 0, 1, 7), (6, 3, 7, 4)] + walls))
        shut.name("inn", (2, 2))
        shut.name("out", (12, 2))
        shut.promise("inn", "out", (), ())
        told = h.fails(self, e.Broken, shut.slide, (6, 3, 7, 4), "right", 4)
        self.assertEqual((told.one, told.other, told.body), ("inn", "out", (1, 1)))
        shut.attempt([("put", (10, 3, 11, 4)), ("take", (6, 3, 7, 4))])

    def test_plans(self):
        yard = made_by([("promise", "inn", "out", (), ((4, 2),))])
        goal = Drawing(PEN[:3] + [(6, 0, 7, 5)])
        told = h.ask(self, yard.plan, ["goal"], [goal])
        promises = [((2, 2), (9, 2), (), ((4, 2),))]
        self.assertEqual(len(told), 3)
        self.assertIs(is_rebuilding(yard.drawing(), goal, promises, told), True)
        self.assertEqual(len(told), len(rebuilding(yard.drawing(), goal, promises)))
        h.fails(self, e.NotKept, yard.plan, Drawing(PEN[:3]))
        yard.put((6, 3, 7, 5))
        self.assertEqual([there.blocks for there in yard.plan(goal)][0], yard.drawing().blocks)
        yard.undo()
        self.assertEqual([there.blocks for there in yard.plan(goal)][0], yard.drawing().blocks)
        many = Drawing(PEN[:3] + [(6, 0, 7, 6)] + [(20 + k, 0, 21 + k, 1) for k in range(8)])
        self.assertIsNotNone(yard.plan(Drawing(many.blocks[:-1])))
        yard.put((40, 0, 41, 1))
        self.assertEqual(h.fails(self, e.TooMany, yard.plan, many).most, 12)
        narrow = made_by([("promise", "inn", "out", ((1, 1),), ((None, 1),))], Drawing(PEN[:3] + [(6, 0, 7, 4), (6, 5, 7, 7)]))
        self.assertIsNone(narrow.plan(Drawing(PEN[:3] + [(6, 0, 7, 3), (6, 4, 7, 7)])))
        for value in h.any_values():
            if not h.drawing(value):
                h.fails(self, e.BadGoal, yard.plan, value)

    def test_lived(self):
        yard = Yard(Drawing(PEN[:3]))
        yard.name("out", (9, 2))
        yard.name("west", (-6, 2))
        for deed in (("put", PEN[3]), ("take", PEN[2])):
            do(yard, deed)
        self.assertEqual(yard.lived("out", "west"), stairs_through(yard.calendar(), (9, 2), (-6, 2)))
        yard.slide(PEN[3], "right", 37)
        self.assertEqual(len(yard.calendar()), 40)
        yard.lived("out", "out")
        yard.put((60, 60, 61, 61))
        self.assertEqual(h.fails(self, e.TooMany, yard.lived, "out", "west").most, 40)
        h.fails(self, e.NoName, yard.lived, "out", "east")
        yard.undo()
        yard.lived("west", "out")

    def test_attempts(self):
        yard = filled()
        yard.attempt([("drop", "inn")])
        yard.undo()
        before = state(yard)
        good = ("name", "more", (1, 1))
        bad = [(("put", (6, 0, 7, 4)), e.BadBlock), (("name", "inn", (0, 0)), e.Named), (("drop", 5), e.BadWord), (("note", "inn", 1, 1), e.BadRow),
               (("slide", (6, 0, 7, 4), "up", 40), e.BadBy), (("promise", "inn", "out", ALL, ALL), e.Broken), (("take", None), e.BadBlock)]
        for deed, error in bad:
            for at, deeds in ((0, [deed, good]), (1, [good, deed]), (0, (deed,)), (2, [good, ("drop", "more"), deed])):
                told = h.fails(self, e.Failed, yard.attempt, deeds)
                self.assertEqual((told.at, type(told.__cause__)), (at, error))
                self.assertTrue(h.same(state(yard), before))
        # A failed deed does not forget what could be done again.
        yard.redo()
        self.assertEqual(yard.names(), {"out": (9, 2)})
        for deeds in ([], (), None, good, [list(good)], [good, ("attempt", [good])], [("name", "a")], [("go", "left")], [()], [("undo",)],
                      [("drop", "a", 1)], {0: good}, [good, None], [(True, "a")], [(("drop",), "a")]):
            h.fails(self, e.BadDeeds, yard.attempt, deeds)

    def test_a_deed_forgets_what_could_be_done_again(self):
        for deed in (("name", "more", (1, 1)), ("drop", "out"), ("put", (9, 9, 10, 10)), ("take", PEN[0]), ("slide", PEN[0], "down", 2),
                     ("promise", "inn", "out", (), ALL), ("note", "inn", [], [()]), ("attempt", [("drop", "inn")])):
            yard = filled()
            yard.name("last", (5, 5))
            yard.undo()
            do(yard, deed)
            h.fails(self, e.NothingUndone, yard.redo)
        yard = filled()
        yard.undo()
        h.fails(self, e.BadWord, yard.name, "A", (0, 0))
        h.fails(self, e.NoName, yard.drop, "out")
        yard.redo()
        self.assertEqual(list(yard.names()), ["inn", "out"])

    def test_so_many(self):
        yard = Yard(Drawing([(k, 0, k + 1, 1) for k in range(12)]))
        self.assertEqual(h.fails(self, e.TooMany, yard.put, (20, 0, 21, 1)).most, 12)
        h.fails(self, e.BadBlock, yard.put, (0, 0, 1, 1))
        for k in range(12):
            yard.name(WORDS[k], (k, 5))
        self.assertEqual(h.fails(self, e.TooMany, yard.name, "more", (0, 0)).most, 12)
        h.fails(self, e.Named, yard.name, WORDS[0], (0, 0))
        for k in range(6):
            yard.promise(WORDS[0], WORDS[k + 1], (), ALL)
        self.assertEqual(h.fails(self, e.TooMany, yard.promise, WORDS[1], WORDS[2], (), ALL).most, 6)
        self.assertEqual(h.fails(self, e.TooMany, yard.promise, WORDS[1], WORDS[2], ALL, ALL).most, 6)
        yard.promise(WORDS[3], WORDS[0], ((1, 1),), ALL)
        for _ in range(12):
            yard.note(WORDS[0], [], [()])
        self.assertEqual(h.fails(self, e.TooMany, yard.note, WORDS[0], [], [("left",)]).most, 12)
        self.assertEqual((len(yard), len(yard.notes()), len(yard.promises())), (31, 12, 6))

    def test_large_numbers(self):
        far = 999999999
        yard = Yard(Drawing([(-far, -far, far, -far + 1)]))
        yard.name("a", (-far, 0))
        yard.name("b", (far, far))
        yard.promise("a", "b", (), ALL)
        self.assertEqual(yard.stairs_of("a", "b"), ALL)
        yard.put((0, -far + 1, 1, far))
        self.assertEqual(yard.changed(), {("a", "b"): (ALL, ((far, None),))})

    def test_wrong_inputs(self):
        h.refuse(self, Yard, [("drawing", e.BadDrawing, h.drawing)], [Drawing(PEN)])
        values = h.any_values()
        word = lambda thing: thing in ("inn", "out") and type(thing) is str
        yard = filled()
        before = state(yard)
        refused = [
            ("name", [(e.BadWord, o.is_word), (e.BadSpot, h.pair_of_numbers)], ["more", (0, 0)]),
            ("drop", [(e.BadWord, o.is_word)], ["inn"]),
            ("put", [(e.BadBlock, h.block)], [(0, 0, 1, 9)]),
            ("take", [(e.BadBlock, lambda thing: False)], [(6, 0, 7, 4)]),
            ("slide", [(e.BadBlock, lambda thing: False), (e.BadSide, h.side), (e.BadBy, lambda thing: h.number(thing) and 1 <= thing <= 39)],
             [(6, 0, 7, 4), "up", 2]),
            ("promise", [(e.BadWord, o.is_word), (e.BadWord, o.is_word), (e.BadLow, h.stairs), (e.BadHigh, lambda thing: h.stairs(thing) and inside((), thing))],
             ["inn", "out", (), ALL]),
            ("release", [(e.BadWord, o.is_word), (e.BadWord, o.is_word)], ["inn", "out"]),
            ("note", [(e.BadWord, o.is_word), (e.BadRow, lambda thing: type(thing) in (list, tuple) and o.is_record(((0, 0), thing, [()] * (len(thing) + 1)))),
                      (e.BadFelt, lambda thing: o.is_record(((0, 0), [], thing)))], ["inn", [], [()]]),
            ("stairs_of", [(e.BadWord, o.is_word), (e.BadWord, o.is_word)], ["inn", "out"]),
            ("sure", [(e.BadWord, o.is_word), (e.BadWord, o.is_word)], ["inn", "out"]),
            ("lived", [(e.BadWord, o.is_word), (e.BadWord, o.is_word)], ["inn", "out"]),
        ]
        for name, params, good in refused:
            for k, (error, judge) in enumerate(params):
                for value in [value for value in values if not judge(value)]:
                    h.fails(self, error, getattr(yard, name), *good[:k], value, *good[k + 1:])
                    h.fails(self, error, getattr(yard, name), *good[:k], value, *[None] * len(good[k + 1:]))
        self.assertTrue(h.same(state(yard), before))
        for value in ("A", "ninechars", "", "a b", "a1", "_", "\u00e4", "ab\n"):
            h.fails(self, e.BadWord, yard.name, value, (0, 0))
            h.fails(self, e.BadWord, yard.stairs_of, "inn", value)
        for name, rest in (("release", ()), ("stairs_of", ()), ("sure", ()), ("lived", ()), ("promise", (None, None))):
            h.fails(self, e.NoName, getattr(yard, name), "no", None, *rest)
            h.fails(self, e.NoName, getattr(yard, name), "inn", "no", *rest)
        square = Yard(Drawing([(0, 0, 1, 1), (0, 3, 1, 4)]))
        h.fails(self, e.BadBlock, square.put, (0, 0, True, 1))
        h.fails(self, e.BadBlock, square.take, (0, 0, True, 1))
        h.fails(self, e.BadBlock, square.slide, (False, 0, 1, 1), "up", 1)
        h.fails(self, e.BadBy, square.slide, (0, 0, 1, 1), "up", 3)
        h.fails(self, e.BadBy, square.slide, (0, 3, 1, 4), "down", 3)
        square.slide((0, 0, 1, 1), "up", 4)
        self.assertEqual([len(there) for there in square.calendar()], [2, 2, 2, 1, 2])
        h.fails(self, e.BadOther, yard.promise, "inn", "inn", None, None)
        h.fails(self, e.NoPromise, yard.release, "inn", "inn")
        h.fails(self, e.BadHigh, yard.promise, "inn", "out", ALL, ())
        h.fails(self, e.BadFelt, yard.note, "inn", [("go", "up")], [()])
        h.fails(self, e.NoBody, yard.note, "inn", [("go", "up")], [(), ()])
        yard.promise("inn", "out", (), ALL)
        h.fails(self, e.Promised, yard.drop, "out")
        self.assertTrue(word("inn"))

    def test_by_name(self):
        yard = Yard(drawing=Drawing(PEN))
        yard.name(word="inn", spot=(2, 2))
        yard.name(word="out", spot=(9, 2))
        yard.put(block=(20, 0, 21, 1))
        yard.slide(block=(20, 0, 21, 1), side="up", by=2)
        yard.take(block=(20, 2, 21, 3))
        yard.promise(one="inn", other="out", low=(), high=())
        yard.release(one="inn", other="out")
        yard.note(word="inn", row=(("go", "left"),), felt=[(), ("left",)])
        yard.attempt(deeds=(("drop", "out"),))
        yard.undo()
        self.assertEqual(yard.stairs_of(one="inn", other="out"), ())
        self.assertIs(yard.sure(one="inn", other="out"), False)
        self.assertEqual(yard.lived(one="inn", other="out"), ())
        self.assertEqual(yard.plan(goal=yard.drawing()), [yard.drawing()])


if __name__ == "__main__":
    unittest.main()
