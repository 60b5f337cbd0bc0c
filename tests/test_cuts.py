import itertools
import random
import unittest

from gapstairs import cuts as c
from gapstairs.errors import BadLot, BadOther, BadPlace, BadWeb
from gapstairs.stairs import met, notches
from gapstairs.webs import Web, between, closed, unlinked, way_table
from tests import helpers as h
from tests.test_webs import PLACE, WEB, link_of, webs

ENDS = [("web", BadWeb, h.web), ("one", BadPlace, PLACE), ("other", BadPlace, PLACE)]


def lots(places):
    return [lot for many in range(places + 1) for lot in itertools.combinations(range(places), many)]


def gets_across(web, lot, body):
    return any(
        h.stairs_has(link_of(web, i, j), body)
        for i in lot for j in range(web.places) if j not in lot
    )


class Across(unittest.TestCase):
    def test_what_some_link_holds(self):
        for web in webs(31, 25):
            for lot in lots(web.places):
                told = c.across(web, lot)
                self.assertTrue(h.stairs(told))
                for body in h.bodies_to(6):
                    self.assertIs(h.stairs_has(told, body), gets_across(web, lot, body))

    def test_heart_between_is_met_over_all_lots(self):
        for web in webs(32, 20):
            for one, other in itertools.permutations(range(web.places), 2):
                whole = ((None, None),)
                for lot in lots(web.places):
                    if one in lot and other not in lot:
                        whole = met(whole, c.across(web, lot))
                self.assertEqual(whole, between(web, one, other))

    def test_refused(self):
        params = [("web", BadWeb, h.web), ("lot", BadLot, h.lot_below(4))]
        h.refuse(self, c.across, params, [WEB, (0, 3)])
        for wrong in ([0, 1], (1, 0), (0, 0), (4,), (-1,), (True,), (0, True), 0, {0}, None):
            h.fails(self, BadLot, c.across, WEB, wrong)
        self.assertEqual(c.across(WEB, ()), ())
        self.assertEqual(c.across(WEB, (0, 1, 2, 3)), ())


class CutTables(unittest.TestCase):
    def test_they_bar_their_notches(self):
        for web in webs(33, 30):
            for one, other in itertools.permutations(range(web.places), 2):
                told = h.ask(self, c.cut_table, ["web", "one", "other"], [web, one, other])
                self.assertEqual(list(told), notches(between(web, one, other)))
                for notch, lot in told.items():
                    self.assertIn(lot, lots(web.places))
                    self.assertTrue(one in lot and other not in lot and not gets_across(web, lot, notch))
                self.assertIs(c.is_cut_table(web, one, other, told), True)
                self.assertIs(c.is_cut_table(web, one, other, dict(reversed(list(told.items())))), True)

    def test_all_lots_are_judged(self):
        for web in webs(34, 15, 4):
            if web.places < 2:
                continue
            table = c.cut_table(web, 1, 0)
            for notch in table:
                for lot in lots(web.places):
                    wanted = 1 in lot and 0 not in lot and not gets_across(web, lot, notch)
                    self.assertIs(c.is_cut_table(web, 1, 0, {**table, notch: lot}), wanted)

    def test_others_are_none(self):
        good = c.cut_table(WEB, 0, 2)
        self.assertIs(c.is_cut_table(WEB, 0, 2, good), True)
        self.assertEqual(list(good), [(1, 6), (3, 2)])
        h.never(self, lambda thing: c.is_cut_table(WEB, 0, 2, thing), [
            {}, {**good, (1, 1): (0,)}, {(1, 6): (0,)}, {(1, 6): [0], (3, 2): (0,)}, {(1, 6): (0, True), (3, 2): (0,)},
            {(1, 6): (False,), (3, 2): (0,)}, {(True, 6): (0,), (3, 2): (0,)}, {(1, 6): (1, 0), (3, 2): (0,)},
            {(1, 6): (0, 2), (3, 2): (0,)}, {(1, 6): (1,), (3, 2): (0,)}, list(good), None,
        ])
        h.judge_any(self, c.is_cut_table, WEB, 0, 2)

    def test_refused(self):
        h.refuse(self, c.cut_table, ENDS[:2] + [("other", BadPlace, PLACE)], [WEB, 0, 2])
        h.refuse(self, c.is_cut_table, ENDS + [("thing", None, None)], [WEB, 0, 2, None])
        h.refuse(self, c.are_papers, ENDS + [(n, None, None) for n in ("stairs", "ways", "cuts")], [WEB, 0, 2, 1, 2, 3])
        h.fails(self, BadOther, c.cut_table, WEB, 1, 1)
        h.fails(self, BadOther, c.is_cut_table, WEB, 1, 1, {})
        h.fails(self, BadOther, c.are_papers, WEB, 1, 1, (), {}, {})
        h.fails(self, BadPlace, c.cut_table, WEB, 4, 4)


class Papers(unittest.TestCase):
    def test_heart_for_between_alone(self):
        small = h.all_stairs(3)
        for web in [h.random_web(random.Random(k), 3, 0.8, 3) for k in range(12)]:
            ways = way_table(web, 0, 2)
            cuts = c.cut_table(web, 0, 2)
            true = between(web, 0, 2)
            self.assertIs(c.are_papers(web, 0, 2, true, ways, cuts), True)
            pool = list(itertools.product((0, 1, 2), repeat=2)) + list(itertools.permutations(range(3)))
            for steps in small:
                if steps == true:
                    continue
                # Whatever stands beside it: each key has the best that there is for it.
                best_ways = {
                    corner: next((p for p in pool if c.are_papers(web, 0, 2, true, {**ways, corner: p}, cuts)), (0, 2))
                    if corner in ways else next(iter(ways.values()), (0, 2)) for corner in steps
                }
                for lot in lots(3):
                    best_cuts = {notch: cuts.get(notch, lot) for notch in notches(steps)}
                    self.assertIs(c.are_papers(web, 0, 2, steps, best_ways, best_cuts), False)

    def test_any_three_values(self):
        good = [between(WEB, 0, 2), way_table(WEB, 0, 2), c.cut_table(WEB, 0, 2)]
        for k in range(3):
            for value in h.any_values():
                values = list(good)
                values[k] = value
                self.assertIs(c.are_papers(WEB, 0, 2, *values), False)
        self.assertIs(c.are_papers(WEB, 0, 2, list(good[0]), good[1], good[2]), False)
        self.assertIs(c.are_papers(WEB, one=0, other=2, stairs=good[0], ways=good[1], cuts=good[2]), True)


class Trimming(unittest.TestCase):
    def test_needless(self):
        for web in webs(35, 40):
            wanted = [pair for pair in web.links if closed(unlinked(web, *pair)) == closed(web)]
            self.assertEqual(h.ask(self, c.needless, ["web"], [web]), wanted)

    def test_trimmed(self):
        for web in webs(36, 40):
            left = web
            for pair in web.links:
                if closed(unlinked(left, *pair)) == closed(web):
                    left = unlinked(left, *pair)
            told = c.trimmed(web)
            self.assertTrue(h.same(told.links, left.links))
            self.assertEqual(told.places, web.places)
            self.assertIsNot(told, web)

    def test_three_equal_links(self):
        web = Web(3, {(0, 1): ((2, 2),), (0, 2): ((2, 2),), (1, 2): ((2, 2),)})
        self.assertEqual(c.needless(web), [(0, 1), (0, 2), (1, 2)])
        self.assertEqual(c.trimmed(web), Web(3, {(0, 2): ((2, 2),), (1, 2): ((2, 2),)}))

    def test_refused(self):
        h.refuse(self, c.needless, [("web", BadWeb, h.web)], [WEB])
        h.refuse(self, c.trimmed, [("web", BadWeb, h.web)], [WEB])


if __name__ == "__main__":
    unittest.main()
