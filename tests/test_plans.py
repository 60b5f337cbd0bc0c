import random
import unittest

from gapstairs import plans as p
from gapstairs.doubts import are_ranks, is_closed, is_plan, most_moves, shown
from gapstairs.drawings import Drawing
from gapstairs.errors import BadAim, BadCases, BadNumber, BadPlan, BadSenses, TooMany
from gapstairs.partings import are_alike, parting
from gapstairs.programs import Program
from gapstairs.runs import run
from tests import feeling as f
from tests import helpers as h
from tests.test_doubts import AIM, BOX, BY_HAND, CASES, FAR, TELL
from tests.test_machines import DRAWING, FIRST, SENSES
from tests.test_programs import random_program

NAMES = ["drawing", "cases", "aim", "senses"]


def walked(drawing, case, course, senses):
    """The stands of a case led by a plan, one behind another."""
    begin, steps = course
    body, stand = case
    found = [stand]
    at = dict(begin)[f.feel(drawing, body, stand, senses)]
    while steps[at] != ("done",):
        found.append(f.behind(drawing, body, found[-1], steps[at][0]))
        at = dict(steps[at][1])[f.feel(drawing, body, found[-1], senses)]
    return found


def chain(many, wide=0):
    """A course of so many steps, one behind another, with so many needless pairs."""
    feels = [senses for senses in f.ALL_SENSES if senses != ()]
    more = [tuple((felt, many - 1) for felt in feels[:wide])]
    return ((((), 0),), tuple((f.MOVES[k % 4], (((), k + 1),) + (more[0] if k < many - 2 else ())) for k in range(many - 1)) + (("done",),))


class Plans(unittest.TestCase):
    def test_plans_tables_and_ranks(self):
        dice = random.Random(951)
        levels = {}
        for drawing, cases in f.scenes(952, 20, 3):
            for aim in f.aims(dice, drawing, cases):
                senses = dice.choice(f.ALL_SENSES + [f.SENSES] * 9)
                web = f.Web(drawing, cases, aim, senses)
                values = [drawing, cases, aim, senses]
                fewest = h.ask(self, p.least_moves, NAMES, values)
                self.assertEqual(fewest, web.fewest())
                course = h.ask(self, p.plan, NAMES, values)
                table = h.ask(self, p.closed_table, NAMES, values)
                self.assertEqual((course is None, table is None), (fewest is None, fewest is not None))
                if course is not None:
                    self.assertIs(is_plan(drawing, cases, aim, course, senses), True)
                    self.assertEqual(most_moves(drawing, cases, aim, course, senses), fewest)
                else:
                    self.assertIs(is_closed(drawing, cases, aim, table, senses), True)
                    if len(table) < 12:
                        self.assertIs(f.closed(drawing, cases, aim, table, senses), True)
                for number in (0, 1, 2, 3, 7, 99):
                    told = h.ask(self, p.ranks, NAMES[:3] + ["number", "senses"], values[:3] + [number, senses])
                    if fewest is None or number <= fewest:
                        self.assertIs(are_ranks(drawing, cases, aim, told, senses), True)
                        self.assertEqual(shown(drawing, cases, aim, told, senses), number)
                    else:
                        self.assertIsNone(told)
                levels[fewest] = levels.get(fewest, 0) + 1
        self.assertTrue({None, 0, 1, 2, 3} <= set(levels), levels)

    def test_senses_left_out(self):
        for drawing, cases in f.scenes(953, 6, 2):
            for aim in f.aims(random.Random(1), drawing, cases):
                self.assertEqual(p.least_moves(drawing, cases, aim), p.least_moves(drawing, cases, aim, f.SENSES))
                self.assertEqual(p.plan(drawing, cases, aim), p.plan(drawing, tuple(cases), aim, f.SENSES))
                self.assertEqual(p.closed_table(drawing, cases, aim), p.closed_table(drawing, cases, aim, f.SENSES))
                self.assertEqual(p.ranks(drawing, cases, aim, 1), p.ranks(drawing, cases, aim, 1, f.SENSES))

    def test_least_senses(self):
        dice = random.Random(954)
        many = {}
        for drawing, cases in f.scenes(955, 7, 2):
            for aim in f.aims(dice, drawing, cases)[1::2]:
                told = h.ask(self, p.least_senses, NAMES[:3], [drawing, cases, aim])
                serving = [senses for senses in f.ALL_SENSES if f.Web(drawing, cases, aim, senses).fewest() is not None]
                least = [one for one in serving if not any(set(other) < set(one) for other in serving)]
                self.assertTrue(h.same(told, sorted(least)))
                many[str(told)] = True
        self.assertGreater(len(many), 4)
        self.assertEqual(p.least_senses(f.BLOCK, f.BY_HAND, BOX), [()])
        self.assertEqual(p.least_senses(f.BLOCK, f.BY_HAND, FAR), [])

    def test_by_hand(self):
        self.assertEqual(p.plan(f.BLOCK, f.BY_HAND, BOX)[0], BY_HAND[0])
        self.assertEqual(p.least_moves(f.BLOCK, f.BY_HAND, BOX), 2)
        self.assertIsNone(p.plan(f.BLOCK, f.BY_HAND, FAR))
        stands = [(-3, 1), (), (-2, 1), (-2, -5), (-2, 4), (4, -5), (4, 4)]
        self.assertIs(is_closed(f.BLOCK, f.BY_HAND, FAR, tuple(((1, stand),) for stand in stands)), True)
        self.assertEqual(len(p.ranks(f.BLOCK, f.BY_HAND, BOX, 0)), 0)
        self.assertIsNone(p.ranks(f.BLOCK, f.BY_HAND, BOX, 3))

    def test_a_plan_reaches_where_a_program_does(self):
        # Programs at hazard: where all runs end in the box, a plan serves, by all SENSES and by the four sides.
        dice = random.Random(956)
        found = 0
        for drawing, cases in f.scenes(957, 25, 2):
            cases = [case for case in cases if case[1] != ()]
            for _ in range(6 if cases else 0):
                ends = [run(drawing, body, stand, random_program(random.Random(dice.randint(0, 9)))) for body, stand in cases]
                if all(end[0] == "ends" for end in ends):
                    aim = ("reach", tuple(end[1] + end[1] for end in ends))
                    self.assertIsNotNone(p.least_moves(drawing, cases, aim))
                    self.assertIsNotNone(p.least_moves(drawing, cases, aim, f.SIDES))
                    found += 1
        self.assertGreater(found, 20)

    def test_telling_apart(self):
        told = 0
        for drawing, cases in f.scenes(958, 20, 4):
            for one in cases:
                for other in cases:
                    fewest = p.least_moves(drawing, [one, other], TELL)
                    if are_alike(drawing, one, other):
                        self.assertIsNone(fewest)
                    else:
                        self.assertEqual(fewest, len(parting(drawing, one, other)))
                        told += fewest > 0
        self.assertGreater(told, 5)

    def test_programs_of_plans(self):
        dice = random.Random(959)
        found = {}
        for drawing, cases in f.scenes(960, 40, 2):
            for aim in f.aims(dice, drawing, cases):
                senses = dice.choice([f.SENSES, f.SIDES, ("left", "up"), ("down", "lost"), ()])
                course = p.plan(drawing, cases, aim, senses)
                if course is None or len(course[1]) > 98:
                    continue
                program = h.ask(self, p.program_of, ["course"], [course])
                self.assertIs(type(program), Program)
                for case in cases:
                    stands = walked(drawing, case, course, senses)
                    if () not in stands:
                        self.assertEqual(run(drawing, *case, program), ("ends", stands[-1]))
                        found[len(stands)] = found.get(len(stands), 0) + 1
        self.assertTrue({1, 2, 3, 4} <= set(found), found)

    def test_programs_of_any_courses(self):
        # A course that tells all sixteen feels of the sides apart, with needless pairs of "lost" and needless steps.
        sides = [senses for senses in f.ALL_SENSES if "lost" not in senses]
        last = len(sides)
        branches = tuple((felt, min(k + 1, last)) for k, felt in enumerate(sides)) + ((("lost",), last), (("up", "lost"), last))
        steps = tuple((f.MOVES[4 + k % 8], tuple((felt, last) for felt in sides[:6])) for k in range(last)) + (("done",),)
        program = p.program_of((branches, steps))
        dice = random.Random(961)
        met = {}
        for drawing, one, _ in h.two_spots(962, 60, 5, 3):
            body = (dice.randint(1, 3), dice.randint(1, 3))
            if not f.case_in(drawing)((body, one)):
                continue
            felt = f.feel(drawing, body, one, f.SIDES)
            at = dict(branches)[felt]
            stand = one
            if at < last:
                stand = f.behind(drawing, body, one, steps[at][0])
                met[felt] = True
            self.assertEqual(run(drawing, body, one, program), ("ends", stand))
        self.assertGreater(len(met), 1)
        # Steps that are needless may go round nothing; the first step need not be the one that begins.
        odd = ((((), 1),), (("done",), ("done",), (("go", "up"), ())))
        self.assertEqual(run(f.BLOCK, *FIRST, p.program_of(odd)), ("ends", FIRST[1]))
        self.assertEqual(run(f.BLOCK, *FIRST, p.program_of(((), (("done",),)))), ("ends", FIRST[1]))

    def test_limits_of_programs(self):
        self.assertEqual(len(chain(98)[1]), 98)
        self.assertEqual(run(Drawing([(0, 0, 4, 4)]), *FIRST, p.program_of(chain(2)))[0], "lost")
        p.program_of(chain(98))
        self.assertEqual(h.fails(self, TooMany, p.program_of, chain(99)).most, 98)
        self.assertEqual(h.fails(self, TooMany, p.program_of, chain(200, 9)).most, 98)
        # One pair begins, one leads on from each of four steps, and each of three has so many more.
        fits = lambda more: ((((), 0),), tuple(
            (("go", "up"), tuple((felt, 6) for felt in f.ALL_SENSES[:many])) for many in (32, 32, 32, 32, 21 + more)) + (("done",),) * 2)
        self.assertEqual(sum(len(step[1]) for step in fits(0)[1] if len(step) > 1) + 1, 150)
        self.assertIs(type(p.program_of(fits(0))), Program)
        self.assertEqual(h.fails(self, TooMany, p.program_of, fits(1)).most, 150)
        sides = [senses for senses in f.ALL_SENSES if "lost" not in senses]
        full = (tuple((felt, 1) for felt in sides[:6]), tuple(
            (("slide", "up", "left"), tuple((felt, 97) for felt in (sides if k < 3 else sides[:1]))) for k in range(97)) + (("done",),))
        self.assertEqual(sum(len(step[1]) for step in full[1][:-1]) + 6, 148)
        self.assertIs(type(p.program_of(full)), Program)

    def test_too_many_doubts(self):
        # Twelve blocks at odd places, and many cases far from them, of which each doubt has other stands.
        dice = random.Random(963)
        drawing = Drawing(h.random_blocks(dice, 12, 30, 9))
        cases = [case for case in [((1, 1 + k % 3), (-60 + 3 * k, -60 + 5 * k)) for k in range(70)] if f.case_in(drawing)(case)]
        self.assertGreater(len(cases), 60)
        aim = ("tell", tuple(range(len(cases))))
        for function in (p.plan, p.least_moves, p.closed_table):
            self.assertEqual(h.fails(self, TooMany, function, drawing, cases, aim, ()).most, 2000)
            h.fails(self, BadSenses, function, drawing, cases, aim, ("up", "up"))
        self.assertEqual(h.fails(self, TooMany, p.ranks, drawing, cases, aim, 3, ()).most, 2000)
        self.assertEqual(h.fails(self, TooMany, p.least_senses, drawing, cases, aim).most, 2000)
        h.fails(self, BadNumber, p.ranks, drawing, cases, aim, 100, ())

    def test_the_limit_of_doubts(self):
        # As many doubts as come are told one by one; just up to 2000 of them are gone through.
        dice = random.Random(964)
        near = {}
        for _ in range(25):
            drawing = Drawing(h.random_blocks(dice, dice.randint(4, 9), 9, 5))
            cases = [case for case in [((1, 1), (dice.randint(-9, 9), dice.randint(-9, 9))) for _ in range(4)] if f.case_in(drawing)(case)]
            if not cases:
                continue
            aim = ("tell", tuple(range(len(cases))))
            try:
                fewest = p.least_moves(drawing, cases, aim, ("up",))
            except TooMany:
                fewest = "too many"
            web = f.Web(drawing, cases, aim, ("up",)) if fewest != "too many" or len(near) < 2 else None
            if web is not None:
                self.assertEqual(fewest == "too many", len(web.answers) > 2000)
                near[fewest == "too many"] = max(len(web.answers), near.get(fewest == "too many", 0))
        self.assertGreater(near[False], 300)

    def test_wrong_inputs(self):
        params = [DRAWING, CASES, AIM, SENSES]
        good = [f.BLOCK, f.BY_HAND, BOX, ("up",)]
        for function in (p.plan, p.least_moves, p.closed_table):
            h.refuse(self, function, params, good)
        number = ("number", BadNumber, f.number_to_99)
        h.refuse(self, p.ranks, params[:3] + [number, SENSES], good[:3] + [2, ("up",)])
        h.refuse(self, p.least_senses, params[:3], good[:3])
        form = lambda thing: h.same(thing, BY_HAND)
        h.refuse(self, p.program_of, [("course", BadPlan, form)], [BY_HAND])
        for value in ((), ((), ()), [(), (("done",),)], ((), [("done",)]), ((((), 1),), (("done",),)),
                      ((((), False),), (("done",),)), ((((), 0),), ((("go", "up"), (((), 0),)),))):
            h.fails(self, BadPlan, p.program_of, value)
        # What has not the form of a plan is refused however long it is.
        long = chain(120)
        h.fails(self, BadPlan, p.program_of, (long[0], list(long[1])))
        h.fails(self, BadCases, p.plan, f.BLOCK, [], BOX)
        h.fails(self, BadAim, p.plan, f.BLOCK, f.BY_HAND, ("reach", [(0, 0, 1, 1)] * 2))


if __name__ == "__main__":
    unittest.main()
