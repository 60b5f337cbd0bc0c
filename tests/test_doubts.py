import random
import unittest

from gapstairs import doubts as d
from gapstairs import plans
from gapstairs.drawings import Drawing
from gapstairs.errors import BadAim, BadCases, BadDoubt, BadDrawing, BadMove, BadPlan, BadRanks, BadSenses
from tests import feeling as f
from tests import helpers as h
from tests.test_machines import DRAWING, FIRST, SENSES

CASES = ("cases", BadCases, f.cases_in(f.BLOCK))
AIM = ("aim", BadAim, f.aim_for(2))
TELL = ("tell", (0, 1))
BOX = ("reach", ((-2, 4, 0, 4),) * 2)
FAR = ("reach", ((-1, 4, 0, 4),) * 2)
BY_HAND = ((((), 0),), ((("go", "right"), ((("right",), 1),)), (("slide", "right", "up"), (((), 2),)), ("done",)))
NAMES = ["drawing", "cases", "aim", "thing", "senses"]


def values_like(values):
    """Things near to a good one: with a bool, a list, or an item more or less somewhere."""
    found = []
    if isinstance(values, tuple):
        found += [list(values), values + (None,), values[:-1], values[::-1]]
        for k, item in enumerate(values):
            found += [values[:k] + (near,) + values[k + 1:] for near in values_like(item)[:6]]
    elif isinstance(values, int) and not isinstance(values, bool):
        found += [bool(values), values - 1, None]
    elif isinstance(values, str):
        found += [values + "s", None]
    return found


class Doubts(unittest.TestCase):
    def test_first_doubts_and_answers(self):
        dice = random.Random(931)
        for drawing, cases in f.scenes(932, 16, 5):
            senses = dice.choice(f.ALL_SENSES)
            told = h.ask(self, d.first_doubts, ["drawing", "cases", "senses"], [drawing, cases, senses])
            self.assertTrue(h.same(told, f.firsts(drawing, cases, senses)))
            self.assertEqual(d.first_doubts(drawing, tuple(cases)), f.firsts(drawing, cases))
            for doubt in list(told.values()) + [((0, ()),)]:
                for one in f.MOVES:
                    names = ["drawing", "cases", "doubt", "move", "senses"]
                    found = h.ask(self, d.answers, names, [drawing, cases, doubt, one, senses])
                    self.assertTrue(h.same(found, f.answered(drawing, cases, doubt, one, senses)))
                    self.assertEqual(d.answers(drawing, cases, doubt, one), f.answered(drawing, cases, doubt, one))

    def test_done(self):
        dice = random.Random(933)
        told = {}
        for drawing, cases in f.scenes(934, 12, 4):
            for aim in f.aims(dice, drawing, cases):
                for doubt in f.Web(drawing, cases, ("tell", (0, 1, 2, 3)[:len(cases)])).answers:
                    done = h.ask(self, d.is_done, ["drawing", "cases", "aim", "doubt"], [drawing, cases, aim, doubt])
                    self.assertIs(done, f.done(aim, doubt))
                    told[(aim[0], done)] = True
        self.assertEqual(len(told), 4)
        self.assertIs(d.is_done(f.BLOCK, f.BY_HAND, FAR, ((0, ()),)), False)
        self.assertIs(d.is_done(f.BLOCK, f.BY_HAND, TELL, ((0, ()),)), True)
        self.assertIs(d.is_done(f.BLOCK, f.BY_HAND, BOX, ((0, (-2, 4)),)), True)
        self.assertIs(d.is_done(f.BLOCK, f.BY_HAND, BOX, ((0, (0, 4)),)), True)
        self.assertIs(d.is_done(f.BLOCK, f.BY_HAND, BOX, ((0, (-3, 4)),)), False)
        self.assertIs(d.is_done(f.BLOCK, f.BY_HAND, BOX, ((0, (-2, 4)), (1, (0, 5)))), False)

    def test_plans_judged(self):
        dice = random.Random(935)
        told = {}
        for drawing, cases in f.scenes(936, 16, 3):
            for aim in f.aims(dice, drawing, cases):
                senses = dice.choice(f.ALL_SENSES + [f.SENSES] * 9)
                course = plans.plan(drawing, cases, aim, senses)
                if course is None:
                    continue
                self.assertIs(h.ask(self, d.is_plan, NAMES, [drawing, cases, aim, course, senses]), True)
                for near in dice.sample(self.changed(dice, course), 6):
                    right = f.serves(drawing, cases, aim, near, senses)
                    self.assertIs(d.is_plan(drawing, cases, aim, near, senses), right)
                    told[right] = told.get(right, 0) + 1
                    if right:
                        self.assertEqual(d.most_moves(drawing, cases, aim, near, senses),
                                         max(self.made(drawing, case, near, senses) for case in cases))
                    else:
                        h.fails(self, BadPlan, d.most_moves, drawing, cases, aim, near, senses)
        self.assertTrue(told[True] > 20 and told[False] > 20, told)

    def changed(self, dice, course):
        """Courses of the form of a plan: with needless steps and pairs, other moves, branches that are gone."""
        begin, steps = course
        last = len(steps)
        extra = (("lost",), 0), (("left", "down"), last - 1)
        known = [felt for felt, _ in begin]
        found = [
            course, (begin + tuple(pair for pair in extra if pair[0] not in known), steps), (begin, steps + (("done",),)),
            (begin, steps + ((("go", "up"), ()),)), (begin[1:], steps), (begin[::-1], steps),
            (tuple((felt, last - 1) for felt, _ in begin), steps), (begin, steps[:-1] + ((("go", "left"), ()),)),
        ]
        for _ in range(4):
            k = dice.randrange(len(steps))
            if steps[k] != ("done",):
                move, branches = steps[k]
                found.append((begin, steps[:k] + ((dice.choice(f.MOVES), branches),) + steps[k + 1:]))
                found.append((begin, steps[:k] + ((move, branches[1:]),) + steps[k + 1:]))
                found.append((begin, steps[:k] + ((move, branches[::-1]),) + steps[k + 1:]))
                found.append((begin, steps[:k] + (("done",),) + steps[k + 1:]))
        # All steps one further on, behind one that no branch leads to.
        shifted = tuple(
            step if step == ("done",) else (step[0], tuple((felt, to + 1) for felt, to in step[1])) for step in steps)
        found.append((tuple((felt, to + 1) for felt, to in begin), (("done",),) + shifted))
        return found

    def made(self, drawing, case, course, senses):
        """How many moves a plan makes with a case."""
        begin, steps = course
        body, stand = case
        at = dict(begin)[f.feel(drawing, body, stand, senses)]
        many = 0
        while steps[at] != ("done",):
            stand = f.behind(drawing, body, stand, steps[at][0])
            at = dict(steps[at][1])[f.feel(drawing, body, stand, senses)]
            many += 1
        return many

    def test_a_plan_by_hand(self):
        self.assertIs(d.is_plan(f.BLOCK, f.BY_HAND, BOX, BY_HAND), True)
        self.assertEqual(d.most_moves(f.BLOCK, f.BY_HAND, BOX, BY_HAND), 2)
        self.assertIs(d.is_plan(f.BLOCK, f.BY_HAND, FAR, BY_HAND), False)
        self.assertIs(d.is_plan(f.BLOCK, f.BY_HAND, BOX, BY_HAND, ("up",)), False)
        begin, steps = BY_HAND
        needless = (begin + ((("left", "up"), 2), (("lost",), 3)), steps + (("done",), (("go", "up"), ())))
        self.assertIs(d.is_plan(f.BLOCK, f.BY_HAND, BOX, needless), True)
        self.assertEqual(d.most_moves(f.BLOCK, f.BY_HAND, BOX, needless), 2)
        # What has not the form of a plan serves nothing, however near it is.
        h.never(self, lambda thing: d.is_plan(f.BLOCK, f.BY_HAND, BOX, thing), [
            (begin, ()), (begin, list(steps)), (list(begin), steps), [begin, steps], (begin, steps, ()),
            (((), 0), steps), ((((), False),), steps), ((((), 3),), steps), ((((), -1),), steps), (begin + begin, steps),
            (begin, ((("go", "right"), ((("right",), 0),)),) + steps[1:]), (begin + ((("up", "left"), 0),), steps),
            (begin, (steps[0], (("slide", "right", "up"), (((), 1),)), steps[2])), (begin, steps[:2] + (["done"],)),
            (begin, steps[:2] + (("done", ()),)), (begin, steps[:2] + ("done",)), (begin, steps[:2] + ((("go", "in"), ()),)),
            (begin, (steps[0], (steps[1][0], (((), 2), ((), 2))), steps[2])), (begin + ((["up"], 0),), steps),
        ])
        # As the index of step 1 stands True.
        chain = ((((), 0),), ((("go", "right"), ((("right",), True),)),) + steps[1:])
        self.assertIs(d.is_plan(f.BLOCK, f.BY_HAND, BOX, chain), False)
        done_at_once = ((((), 0),), (("done",),))
        self.assertIs(d.is_plan(f.BLOCK, [FIRST], ("tell", (5,)), done_at_once), True)
        self.assertEqual(d.most_moves(f.BLOCK, [FIRST, FIRST], ("tell", (5, 5)), done_at_once), 0)
        self.assertIs(d.is_plan(f.BLOCK, f.BY_HAND, TELL, done_at_once), False)

    def test_long_plans(self):
        # A plan of 3000 moves to the left of a long block and back.
        course = ((((), 0),), tuple(
            (("slide", "right", "up") if k % 2 else ("slide", "right", "down"), (((), k + 1), (("right",), k + 1)))
            for k in range(3000)) + (("done",),))
        self.assertIs(d.is_plan(f.BLOCK, [FIRST], ("reach", ((-3, 1, -3, 1),)), course), True)
        self.assertEqual(d.most_moves(f.BLOCK, [FIRST], ("reach", ((-3, 1, -3, 1),)), course), 3000)

    def test_closed_tables_judged(self):
        dice = random.Random(937)
        told = {}
        for drawing, cases in f.scenes(938, 14, 3):
            for aim in f.aims(dice, drawing, cases):
                senses = dice.choice(f.ALL_SENSES + [f.SENSES] * 9)
                table = plans.closed_table(drawing, cases, aim, senses)
                if table is None or len(table) > 40:
                    continue
                self.assertIs(h.ask(self, d.is_closed, NAMES, [drawing, cases, aim, table, senses]), True)
                shuffled = list(table)
                dice.shuffle(shuffled)
                self.assertIs(d.is_closed(drawing, cases, aim, tuple(shuffled), senses), True)
                lesser = tuple(sorted({tuple(doubt[:2]) for doubt in table}))
                k = dice.randrange(len(table))
                for near in (lesser, table[:k] + table[k + 1:], table[:1], table + table[:1], ()):
                    right = self.closed_by(drawing, cases, aim, near, senses)
                    self.assertIs(d.is_closed(drawing, cases, aim, near, senses), right)
                    told[right] = told.get(right, 0) + 1
        self.assertTrue(told[True] > 5 and told[False] > 20, told)

    def closed_by(self, drawing, cases, aim, table, senses):
        return all(f.doubt_in(drawing, cases)(doubt) for doubt in table) and f.closed(drawing, cases, aim, table, senses)

    def test_ranks_judged(self):
        dice = random.Random(939)
        told = {}
        for drawing, cases in f.scenes(940, 14, 3):
            for aim in f.aims(dice, drawing, cases):
                senses = dice.choice(f.ALL_SENSES + [f.SENSES] * 9)
                web = f.Web(drawing, cases, aim, senses)
                if len(web.answers) > 40:
                    continue
                table = [(doubt, web.least.get(doubt, 50)) for doubt in web.answers if web.least.get(doubt, 50) > 0]
                dice.shuffle(table)
                self.assertIs(h.ask(self, d.are_ranks, NAMES, [drawing, cases, aim, tuple(table), senses]), True)
                firsts = list(web.firsts.values())
                for near in (table, table[1:], [(doubt, number + 1) for doubt, number in table],
                             [(doubt, max(1, number - 1)) for doubt, number in table], table[:2], table + table[:1],
                             self.one_other(dice, table, 1), self.one_other(dice, table, 1), self.one_other(dice, table, -1), [
                                 (doubt, 2) for doubt, _ in table[:2]]):
                    right = self.are_ranks(drawing, cases, aim, near, senses)
                    self.assertIs(d.are_ranks(drawing, cases, aim, tuple(near), senses), right)
                    told[right] = told.get(right, 0) + 1
                    if not right:
                        h.fails(self, BadRanks, d.shown, drawing, cases, aim, tuple(near), senses)
                        continue
                    values = [drawing, cases, aim, tuple(near), senses]
                    shown = h.ask(self, d.shown, ["drawing", "cases", "aim", "table", "senses"], values)
                    self.assertEqual(shown, max(
                        [number for doubt, number in near if any(f.has(first, doubt) for first in firsts)], default=0))
                    if web.fewest() is not None:
                        self.assertLessEqual(shown, web.fewest())
        self.assertTrue(told[True] > 30 and told[False] > 30, told)

    def one_other(self, dice, table, by):
        """The table with the number of one of its pairs greater, or less."""
        k = dice.randrange(len(table) + 1)
        return [(doubt, max(1, number + by * (j == k))) for j, (doubt, number) in enumerate(table)]

    def are_ranks(self, drawing, cases, aim, table, senses):
        if len({doubt for doubt, _ in table}) != len(table) or any(f.done(aim, doubt) for doubt, _ in table):
            return False
        return all(
            any(f.has(answer, other) and least >= number - 1 for other, least in table
                for answer in f.answered(drawing, cases, doubt, one, senses).values())
            for doubt, number in table if number > 1 for one in f.MOVES)

    def test_tables_by_hand(self):
        stands = [(-3, 1), (), (-2, 1), (-2, -5), (-2, 4), (4, -5), (4, 4)]
        table = tuple(((1, stand),) for stand in stands)
        self.assertIs(d.is_closed(f.BLOCK, f.BY_HAND, FAR, table), True)
        self.assertIs(d.is_closed(f.BLOCK, f.BY_HAND, BOX, table), False)
        self.assertIs(d.is_closed(f.BLOCK, f.BY_HAND, FAR, table[1:]), False)
        self.assertIs(d.is_closed(f.BLOCK, f.BY_HAND, FAR, ()), False)
        self.assertIs(d.is_closed(f.BLOCK, f.BY_HAND, FAR, list(table)), False)
        self.assertIs(d.is_closed(f.BLOCK, f.BY_HAND, FAR, tuple(((True, stand),) for stand in stands)), False)
        self.assertIs(d.are_ranks(f.BLOCK, f.BY_HAND, FAR, ()), True)
        self.assertEqual(d.shown(f.BLOCK, f.BY_HAND, FAR, ()), 0)
        for number in (1, 2, 99, 999999999):
            ranks = tuple((doubt, number) for doubt in table)
            self.assertIs(d.are_ranks(f.BLOCK, f.BY_HAND, FAR, ranks), True)
            self.assertEqual(d.shown(f.BLOCK, f.BY_HAND, FAR, ranks), number)
        self.assertEqual(d.shown(f.BLOCK, f.BY_HAND, FAR, ((((1, (4, 4)),), 1),)), 0)
        for number in (0, -1, True, None, "1", (1,)):
            h.never(self, lambda thing: d.are_ranks(f.BLOCK, f.BY_HAND, FAR, thing), [
                tuple((doubt, number) for doubt in table), ((table[0], number),), tuple((doubt, 1) for doubt in table[1:]) + ((table[0], number),)])
        one = ((((1, (-3, 1)),), 1),)
        self.assertIs(d.are_ranks(f.BLOCK, f.BY_HAND, FAR, one), True)
        for near in values_like(one):
            right = near == () or near == one and h.same(near, one)
            self.assertIs(d.are_ranks(f.BLOCK, f.BY_HAND, FAR, near), right, near)

    def test_any_values(self):
        for value in h.any_values() + values_like(BY_HAND):
            for number, cases in ((2, f.BY_HAND), (1, [FIRST]), (1, (7,)), (3, [None, {}, "a"])):
                self.assertIs(d.is_aim(cases, value), f.aim_for(number)(value))
            for aim in (TELL, BOX, FAR):
                self.assertIs(d.is_plan(f.BLOCK, f.BY_HAND, aim, value), h.same(value, BY_HAND) and aim == BOX, value)
                self.assertIs(d.is_closed(f.BLOCK, f.BY_HAND, aim, value), False)
                self.assertIs(d.are_ranks(f.BLOCK, f.BY_HAND, aim, value), value == ())
        for box in ((0, 0, 1, 1, 1), (0, 5, 1, 1), (5, 0, 1, 1), (0, 0, 1), [0, 0, 1, 1], (0, 0, True, 1), (0, 0, 1, None)):
            self.assertIs(d.is_aim([1], ("reach", (box,))), False)
            self.assertIs(d.is_aim([1, 2], ("reach", ((0, 0, 1, 1), box))), False)
        self.assertIs(d.is_aim([1, 2], ("reach", ((0, 0, 0, 0), (3, -1, 3, -1)))), True)
        for aim in (TELL, BOX):
            for near in values_like(aim):
                self.assertIs(d.is_aim(f.BY_HAND, near), f.aim_for(2)(near), near)

    def test_wrong_inputs(self):
        cases = f.BY_HAND
        doubt = ("doubt", BadDoubt, f.doubt_in(f.BLOCK, cases))
        told = ((0, (-3, 1)), (1, ()))
        h.refuse(self, d.first_doubts, [DRAWING, CASES, SENSES], [f.BLOCK, cases, ("up",)])
        front = [DRAWING, CASES, doubt, ("move", BadMove, f.move), SENSES]
        h.refuse(self, d.answers, front, [f.BLOCK, cases, told, f.MOVES[0], ("up",)])
        h.refuse(self, d.is_done, [DRAWING, CASES, AIM, doubt], [f.BLOCK, cases, TELL, told])
        items = ("cases", BadCases, lambda thing: type(thing) in (list, tuple) and len(thing) > 0)
        h.refuse(self, d.is_aim, [items, ("thing", None, None)], [cases, TELL])
        for function in (d.is_plan, d.is_closed, d.are_ranks):
            h.refuse(self, function, [DRAWING, CASES, AIM, ("thing", None, None), SENSES],
                     [f.BLOCK, cases, TELL, (), ("up",)])
        # Senses are refused ahead of a plan and of ranks, which they tell.
        for function, name, error, good in ((d.most_moves, "course", BadPlan, BY_HAND), (d.shown, "table", BadRanks, ())):
            moved = lambda drawing, cases, aim, senses, thing: function(drawing, cases, aim, thing, senses)
            params = [DRAWING, CASES, AIM, SENSES, (name, error, lambda thing: thing == good)]
            values = [f.BLOCK, cases, BOX, f.SENSES, good]
            h.ask(self, function, ["drawing", "cases", "aim", name, "senses"], [f.BLOCK, cases, BOX, good, f.SENSES])
            for k, (_, wrong, judge) in enumerate(params):
                for value in h.any_values():
                    if not judge(value):
                        h.fails(self, wrong, moved, *values[:k], value, *values[k + 1:])
                        if k < 4:
                            h.fails(self, wrong, moved, *values[:k], value, *[1] * (4 - k))
        for value in (((1, (-3, 1)), (0, (-3, 1))), ((0, (-3, 1)), (0, ())), (), [(0, ())], ((0, [-3, 1]),), ((0, (1, 1)),),
                      ((2, ()),), ((-1, ()),), ((False, ()),), ((0, (-3, True)),), ((0,),)):
            h.fails(self, BadDoubt, d.is_done, f.BLOCK, cases, TELL, value)
        h.fails(self, BadAim, d.is_plan, f.BLOCK, cases, ("tell", (0,)), BY_HAND, 1)
        h.fails(self, BadSenses, d.is_plan, f.BLOCK, cases, TELL, BY_HAND, 1)
        h.fails(self, BadDrawing, d.is_plan, 1, [], TELL, BY_HAND, 1)


if __name__ == "__main__":
    unittest.main()
