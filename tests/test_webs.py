import itertools
import random
import unittest

from gapstairs import webs as w
from gapstairs.errors import BadLinks, BadPlace, BadPlaces, BadStairs, BadWeb
from gapstairs.stairs import ALL
from gapstairs.webs import Web
from tests import helpers as h

WEB = Web(4, {(0, 1): ((2, 5), (4, 1)), (1, 2): ((3, None),), (0, 2): ((None, 1),)})
PLACE = h.index_below(4)
THREE = [("web", BadWeb, h.web), ("one", BadPlace, PLACE), ("other", BadPlace, PLACE)]


def paths(places, one, other):
    """All tuples of different places from one to other, whether they are linked or not."""
    if one == other:
        return [(one,)]
    rest = [place for place in range(places) if place not in (one, other)]
    return [
        (one, *middle, other) for many in range(len(rest) + 1)
        for middle in itertools.permutations(rest, many)
    ]


def link_of(web, i, j):
    return web.links.get((min(i, j), max(i, j)), ())


def along(web, path, held):
    """Whether all links of the path hold the corner (as all bodies up to 9)."""
    return all(h.stairs_has(link_of(web, i, j), held) for i, j in zip(path, path[1:]))


def gets(web, one, other, body):
    return any(along(web, path, body) for path in paths(web.places, one, other))


def webs(seed, rounds, places=5):
    dice = random.Random(seed)
    return [Web(1, {}), Web(3, {})] + [
        h.random_web(dice, dice.randint(1, places), dice.choice([0.3, 0.6, 1])) for _ in range(rounds)
    ]


class Making(unittest.TestCase):
    def test_attributes(self):
        links = {(1, 2): ((1, 1),), (0, 2): ALL, (0, 1): ((2, None), (3, 4))}
        made = Web(3, links)
        wanted = {(0, 1): ((2, None), (3, 4)), (0, 2): ALL, (1, 2): ((1, 1),)}
        self.assertTrue(h.same(made.links, wanted))
        self.assertEqual(made.places, 3)
        links.clear()
        self.assertTrue(h.same(made.links, wanted))
        self.assertTrue(h.same(Web(places=3, links=wanted).links, wanted))

    def test_equal(self):
        links = {(0, 1): ((1, 1),)}
        self.assertTrue(Web(2, links) == Web(2, dict(links)))
        self.assertTrue(Web(3, links) != Web(2, links))
        self.assertTrue(Web(2, links) != Web(2, {}))
        self.assertTrue(Web(2, {(0, 1): ((1, 2),)}) != Web(2, links))
        for value in h.any_values():
            self.assertIs(Web(7, {}) == value, False)

    def test_refused(self):
        for value in h.any_values():
            if not (h.number(value) and 1 <= value <= 12):
                h.fails(self, BadPlaces, Web, value, {})
                h.fails(self, BadPlaces, Web, value, None)
        for places in (0, 13, -1, True):
            h.fails(self, BadPlaces, Web, places, {})
        for value in h.any_values():
            if not h.same(value, {}) and not h.same(value, {(0, 1): ((1, 1),)}):
                h.fails(self, BadLinks, Web, 2, value)
        for wrong in (
            {(0, 2): ALL}, {(1, 0): ALL}, {(0, 0): ALL}, {(False, 1): ALL}, {(0, True): ALL}, {(0, 1): ()},
            {(0, 1): [(1, 1)]}, {(0, 1): ((True, 1),)}, {0: ALL}, {(0, 1, 1): ALL}, {(0, 1): ALL, (1, 2): ALL},
            [((0, 1), ALL)], {(-1, 1): ALL},
        ):
            h.fails(self, BadLinks, Web, 2, wrong)
        self.assertEqual(Web(12, {(10, 11): ALL}).places, 12)


class Links(unittest.TestCase):
    def test_link(self):
        self.assertEqual(w.link(WEB, 0, 1), ((2, 5), (4, 1)))
        self.assertEqual(w.link(WEB, 1, 0), ((2, 5), (4, 1)))
        self.assertEqual(w.link(WEB, 3, 0), ())
        self.assertEqual(w.link(WEB, 3, 3), ALL)
        h.refuse(self, w.link, [("web", BadWeb, h.web), ("i", BadPlace, PLACE), ("j", BadPlace, PLACE)], [WEB, 2, 1])

    def test_raised_and_unlinked(self):
        dice = random.Random(21)
        for web in webs(22, 40):
            if web.places < 2:
                continue
            i, j = dice.sample(range(web.places), 2)
            more = dice.choice([(), ALL, h.random_stairs(dice)])
            made = w.raised(web, i, j, more)
            self.assertEqual(h.held_set(link_of(made, i, j), 6), h.held_set(link_of(web, i, j), 6) | h.held_set(more, 6))
            rest = {pair: made.links[pair] for pair in made.links if set(pair) != {i, j}}
            self.assertEqual(rest, {pair: web.links[pair] for pair in web.links if set(pair) != {i, j}})
            self.assertTrue(h.same(w.unlinked(web, j, i), Web(web.places, rest)))
        self.assertEqual(w.raised(WEB, 3, 0, ()), WEB)
        self.assertNotIn((0, 3), w.raised(WEB, 3, 0, ()).links)

    def test_fact_of_raised(self):
        dice = random.Random(23)
        for web in webs(24, 25):
            if web.places < 2:
                continue
            i, j = dice.sample(range(web.places), 2)
            more = h.random_stairs(dice)
            made = w.raised(web, i, j, more)
            for one in range(web.places):
                for other in range(web.places):
                    wanted = (
                        h.held_set(w.between(web, one, other), 6)
                        | h.held_set(w.between(web, one, i), 6) & h.held_set(more, 6)
                        & h.held_set(w.between(web, j, other), 6)
                        | h.held_set(w.between(web, one, j), 6) & h.held_set(more, 6)
                        & h.held_set(w.between(web, i, other), 6)
                    )
                    self.assertEqual(h.held_set(w.between(made, one, other), 6), wanted)

    def test_refused(self):
        params = [("web", BadWeb, h.web), ("i", BadPlace, PLACE), ("j", BadPlace, lambda v: PLACE(v) and v != 2)]
        h.refuse(self, w.unlinked, params, [WEB, 2, 1])
        h.refuse(self, w.raised, params + [("stairs", BadStairs, h.stairs)], [WEB, 2, 1, ((1, 1),)])
        h.fails(self, BadPlace, w.raised, WEB, 1, 1, "no stairs")


class Between(unittest.TestCase):
    def test_between_is_all_paths(self):
        for web in webs(25, 40):
            for one in range(web.places):
                for other in range(web.places):
                    told = w.between(web, one, other)
                    self.assertTrue(h.stairs(told))
                    for body in h.bodies_to(6):
                        self.assertIs(h.stairs_has(told, body), gets(web, one, other, body))

    def test_one_place_and_no_links(self):
        self.assertEqual(w.between(Web(1, {}), 0, 0), ALL)
        self.assertEqual(w.between(Web(3, {}), 0, 1), ())
        self.assertEqual(w.between(Web(3, {}), 2, 2), ALL)
        self.assertEqual(w.closed(Web(1, {})), Web(1, {}))

    def test_twelve_places(self):
        links = {(k, k + 1): ((20 - k, 9 + k), (None, 1)) for k in range(11)}
        links[(0, 11)] = ((1, None), (4, 100))
        web = Web(12, links)
        self.assertEqual(w.between(web, 0, 11), ((1, None), (4, 100), (10, 9), (None, 1)))
        full = h.random_web(random.Random(26), 12, 1, 30)
        whole = w.closed(full)
        for i, j in itertools.combinations(range(12), 2):
            self.assertEqual(whole.links[(i, j)], w.between(full, i, j))

    def test_closed(self):
        for web in webs(27, 25):
            told = w.closed(web)
            wanted = {
                (i, j): w.between(web, i, j) for i in range(web.places) for j in range(i + 1, web.places)
                if w.between(web, i, j) != ()
            }
            self.assertTrue(h.same(told.links, wanted))
            self.assertEqual(told.places, web.places)
            self.assertEqual(w.closed(told), told)
        h.refuse(self, w.closed, [("web", BadWeb, h.web)], [WEB])
        told = w.closed(WEB)
        told.links.clear()
        self.assertEqual(len(w.closed(WEB).links), 3)

    def test_refused(self):
        h.refuse(self, w.between, THREE, [WEB, 0, 2])


class WayTables(unittest.TestCase):
    def test_they_serve_their_corners(self):
        for web in webs(28, 30):
            for one in range(web.places):
                for other in range(web.places):
                    told = h.ask(self, w.way_table, ["web", "one", "other"], [web, one, other])
                    self.assertEqual(list(told), list(w.between(web, one, other)))
                    for corner, path in told.items():
                        self.assertIn(path, paths(web.places, one, other))
                        body = tuple(9 if item is None else item for item in corner)
                        self.assertTrue(along(web, path, body))
                    self.assertIs(w.is_way_table(web, one, other, told), True)
                    self.assertIs(w.is_way_table(web, one, other, dict(reversed(list(told.items())))), True)

    def test_all_paths_are_judged(self):
        for web in webs(29, 12, 4):
            if web.places < 2:
                continue
            table = w.way_table(web, 0, 1)
            for corner in table:
                body = tuple(9 if item is None else item for item in corner)
                for many in range(5):
                    for path in itertools.product(range(web.places), repeat=many):
                        wanted = path in paths(web.places, 0, 1) and along(web, path, body)
                        self.assertIs(w.is_way_table(web, 0, 1, {**table, corner: path}), wanted)

    def test_others_are_none(self):
        good = w.way_table(WEB, 0, 2)
        self.assertEqual(good, {(2, 5): (0, 1, 2), (None, 1): (0, 2)})
        h.never(self, lambda thing: w.is_way_table(WEB, 0, 2, thing), [
            {}, {(2, 5): (0, 1, 2)}, {**good, (1, 1): (0, 2)}, {(2, 5): [0, 1, 2], (None, 1): (0, 2)},
            {(2, 5): (False, 1, 2), (None, 1): (0, 2)}, {(2, 5): (0, True, 2), (None, 1): (0, 2)},
            {(2, 5): (0, 1, 2), (None, True): (0, 2)}, {(2, 5): (0, 2), (None, 1): (0, 2)},
            {(2, 5): (0, 1, 0, 1, 2), (None, 1): (0, 2)}, {(2, 5): (), (None, 1): (0, 2)},
            {(2, 5): (2, 1, 0), (None, 1): (0, 2)}, list(good.items()), list(good), (good,),
        ])
        h.judge_any(self, w.is_way_table, WEB, 0, 2)
        h.judge_any(self, w.is_way_table, WEB, 3, 3)
        self.assertIs(w.is_way_table(WEB, 3, 3, {(None, None): (3,)}), True)
        self.assertIs(w.is_way_table(WEB, 0, 3, {}), True)
        self.assertIs(w.is_way_table(WEB, 0, 3, []), False)

    def test_refused(self):
        h.refuse(self, w.way_table, THREE, [WEB, 0, 2])
        h.refuse(self, w.is_way_table, THREE + [("thing", None, None)], [WEB, 0, 2, {}])


if __name__ == "__main__":
    unittest.main()
