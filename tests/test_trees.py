import itertools
import random
import unittest

from gapstairs import trees as t
from gapstairs.errors import BadBody, BadForest, BadWeb
from gapstairs.stairs import ALL, counted
from gapstairs.webs import Web, closed
from tests import helpers as h
from tests.test_webs import WEB, link_of, webs

WEBS = [("web", BadWeb, h.web)]
# Its links hold bodies that no forest keeps together: none of the three tells, one is short.
CROSS = Web(3, {(0, 1): ((1, 3), (3, 1)), (1, 2): ((1, 3),), (0, 2): ((3, 1),)})


def pieces_of(web, body):
    groups = [{place} for place in range(web.places)]
    for i, j in web.links:
        if h.stairs_has(link_of(web, i, j), body):
            joined = [g for g in groups if i in g or j in g]
            groups = [g for g in groups if g not in joined] + [set().union(*joined)]
    return sorted(tuple(sorted(g)) for g in groups)


def forests(web):
    """All forests, found by trying all lots of pairs."""
    pairs = list(closed(web).links)
    return [
        lot for many in range(len(pairs) + 1) for lot in itertools.combinations(pairs, many)
        if is_acyclic(web.places, lot)
    ]


def is_acyclic(places, lot):
    linked = Web(places, {pair: ALL for pair in lot})
    return len(pieces_of(linked, (1, 1))) == places - len(lot)


def tells(web, forest):
    whole = closed(web)
    return closed(Web(web.places, {pair: whole.links[pair] for pair in forest})) == whole


def is_greatest(web, forest):
    whole = closed(web).links
    body = t.far(web)
    for pair in whole:
        heavy = [one for one in forest if counted(whole[one], body) >= counted(whole[pair], body)]
        joined = pieces_of(Web(web.places, {one: ALL for one in heavy}), (1, 1))
        if not any(pair[0] in piece and pair[1] in piece for piece in joined):
            return False
    return True


def weight_of(web, forest, body):
    return sum(counted(closed(web).links[pair], body) for pair in forest)


class Pieces(unittest.TestCase):
    def test_pieces(self):
        for web in webs(41, 30):
            for body in h.bodies_to(5):
                self.assertEqual(h.ask(self, t.pieces, ["web", "body"], [web, body]), pieces_of(web, body))
        h.refuse(self, t.pieces, WEBS + [("body", BadBody, h.body)], [WEB, (2, 1)])

    def test_bonds(self):
        for web in webs(42, 25):
            total = {}
            for body in h.bodies_to(6):
                total[body] = web.places - len(pieces_of(web, body))
            for body in h.bodies_to(6):
                wanted = sum(total[one] for one in total if one[0] <= body[0] and one[1] <= body[1])
                self.assertEqual(t.bonds(web, body), wanted)
        h.refuse(self, t.bonds, WEBS + [("body", BadBody, h.body)], [WEB, (2, 1)])

    def test_too_many_to_go_through(self):
        most = 999999999
        web = Web(12, {(i, j): ((i + 1, None), (None, j)) for i in range(12) for j in range(i + 1, 12)})
        self.assertEqual(t.bonds(Web(2, {(0, 1): ALL}), (most, most)), most * most)
        # Up to a width of 11 or a height of 11 all or some are joined; beyond, place by place less.
        wanted = sum(
            web.places - len(pieces_of(web, (a, b))) for a in range(1, 41) for b in range(1, 31)
        )
        self.assertEqual(t.bonds(web, (40, 30)), wanted)
        self.assertEqual(t.bonds(Web(3, {(0, 1): ((5, most),), (1, 2): ((most, 2),)}), (most, most)), 5 * most + 2 * most)
        self.assertEqual(t.weight(Web(2, {(0, 1): ALL}), ((0, 1),), (most, most)), most * most)

    def test_far(self):
        self.assertEqual(t.far(Web(3, {})), (1, 1))
        self.assertEqual(t.far(Web(2, {(0, 1): ALL})), (1, 1))
        self.assertEqual(t.far(WEB), (5, 6))
        self.assertEqual(t.far(Web(2, {(0, 1): ((7, None), (None, 3))})), (8, 4))
        h.refuse(self, t.far, WEBS, [WEB])


class Forests(unittest.TestCase):
    def test_all_small_ones_are_judged(self):
        for web in webs(43, 12, 4):
            good = forests(web)
            pairs = list(itertools.product(range(web.places), repeat=2))
            for many in range(3):
                for lot in itertools.product(pairs, repeat=many):
                    self.assertIs(t.is_forest(web, lot), lot in good)
            for lot in good:
                self.assertIs(t.is_forest(web, lot), True)
                whole = closed(web).links
                self.assertEqual(t.forest_web(web, lot), Web(web.places, {pair: whole[pair] for pair in lot}))
                for body in ((1, 1), (2, 4), (6, 3)):
                    self.assertEqual(t.weight(web, lot, body), weight_of(web, lot, body))

    def test_edges(self):
        full = Web(3, {(0, 1): ALL, (1, 2): ALL})
        self.assertIs(t.is_forest(full, ()), True)
        self.assertIs(t.is_forest(full, ((0, 2),)), True)
        h.never(self, lambda thing: t.is_forest(full, thing), [
            [(0, 1)], ((0, 1), (0, 1)), ((0, 2), (0, 1)), ((1, 0),), ((0, 0),), ((0, 3),), ((False, 1),), ((0, True),),
            ((0, 1), (0, 2), (1, 2)), ([0, 1],), (0, 1), {(0, 1): 1}, None,
        ])
        for value in h.any_values():
            self.assertIs(t.is_forest(full, value), value in (((0, 1),), ((0, 1), (0, 2)), ()) and value != [])

    def test_refused(self):
        forest = ("forest", BadForest, lambda thing: t.is_forest(CROSS, thing))
        h.refuse(self, t.is_forest, WEBS + [("thing", None, None)], [CROSS, 1])
        h.refuse(self, t.forest_web, WEBS + [forest], [CROSS, ((0, 1),)])
        h.refuse(self, t.weight, WEBS + [forest, ("body", BadBody, h.body)], [CROSS, ((0, 1),), (9, 9)])


class Telling(unittest.TestCase):
    def webs(self):
        dice = random.Random(44)
        return webs(45, 30, 4) + [CROSS] + [h.random_web(dice, 4, 0.5, 3) for _ in range(30)]

    def test_heart_telling_or_short_never_both(self):
        kinds = set()
        for web in self.webs():
            every = forests(web)
            bonds = t.bonds(web, t.far(web))
            telling = [f for f in every if tells(web, f)]
            short = [f for f in every if is_greatest(web, f) and weight_of(web, f, t.far(web)) < bonds]
            self.assertIs(bool(telling), not short)
            one = h.ask(self, t.telling_forest, ["web"], [web])
            other = h.ask(self, t.short_forest, ["web"], [web])
            self.assertTrue(one in telling if telling else one is None)
            self.assertTrue(other in short if short else other is None)
            kinds.add(bool(telling))
            for forest in every:
                self.assertIs(t.is_telling_forest(web, forest), forest in telling)
                self.assertIs(t.is_short_forest(web, forest), forest in short)
                self.assertEqual(forest in telling, t.weight(web, forest, t.far(web)) == bonds)
                for body in ((1, 1), (2, 3), (9, 9)):
                    self.assertLessEqual(t.weight(web, forest, body), t.bonds(web, body))
        self.assertEqual(kinds, {True, False})

    def test_a_chain_has_a_telling_forest(self):
        steps = [((1, 1),), ((1, 2), (2, 1)), ((2, 2),), ((2, None), (3, 2)), ALL]
        dice = random.Random(46)
        for _ in range(20):
            web = Web(4, {(i, j): dice.choice(steps) for i in range(4) for j in range(i + 1, 4)})
            self.assertIsNotNone(t.telling_forest(web))
            self.assertIsNone(t.short_forest(web))

    def test_any_value_is_judged(self):
        h.judge_any(self, t.is_telling_forest, CROSS)
        h.judge_any(self, t.is_short_forest, CROSS)
        self.assertEqual(t.telling_forest(Web(1, {})), ())
        self.assertIs(t.is_telling_forest(Web(1, {}), ()), True)
        self.assertIs(t.is_telling_forest(Web(1, {}), []), False)
        self.assertIs(t.is_short_forest(Web(1, {}), ()), False)

    def test_refused(self):
        for function in (t.telling_forest, t.short_forest):
            h.refuse(self, function, WEBS, [CROSS])
        for function in (t.is_telling_forest, t.is_short_forest):
            h.refuse(self, function, WEBS + [("thing", None, None)], [CROSS, 1])


if __name__ == "__main__":
    unittest.main()
