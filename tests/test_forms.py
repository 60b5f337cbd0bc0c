import random
import unittest

from gapstairs import forms as s
from gapstairs.errors import (
    BadBody, BadBy, BadEnd, BadForm, BadLeast, BadPlace, BadStairs, BadStart, BadTimes, NotJoined, NotRound,
)
from gapstairs.stairs import barred, met, moved
from tests import helpers as h

ALL = ((None, None),)
HERE = (0, (1, 2))
NAMES = ["start", "end", "stairs", "least", "by"]


def is_place(thing):
    return type(thing) is tuple and len(thing) == 2 and h.from_zero(thing[0]) and h.pair_of_numbers(thing[1])


def form(thing):
    return type(thing) is s.Form


def told(one):
    return (one.start, one.end, one.stairs, one.least, one.by)


def after(given, body):
    """What a body becomes by the values with which a form was made; None if it is not held."""
    start, end, stairs, least, by = given
    if not h.stairs_has(stairs, body):
        return None
    return tuple(max(low, item + more) for low, item, more in zip(least, body, by))


def random_given(dice, places=(HERE,), most=4, span=3):
    stairs = dice.choice([ALL, (), h.random_stairs(dice, most)] + [h.random_stairs(dice, most)] * 5)
    least = (dice.randint(1, 3), dice.randint(1, 3))
    by = (dice.randint(-span, span), dice.randint(-span, span))
    return (dice.choice(places), dice.choice(places), stairs, least, by)


def walked(one, body, most):
    """How often a body goes round, up to so many times, and what it is then."""
    for k in range(most):
        if not h.stairs_has(one.stairs, body):
            return (k, body)
        body = after(told(one), body)
    return (most, body)


def has_grown(one, body, most=60):
    """The body that it is behind many rounds, if its sizes came to stay; None if they did not, or it was stopped."""
    done, here = walked(one, body, most)
    return here if done == most and walked(one, body, most - 9)[1] == here else None


class Forms(unittest.TestCase):
    def test_terms(self):
        dice = random.Random(1021)
        kinds = {}
        for _ in range(400):
            given = random_given(dice, (HERE, (3, (0, 0))))
            made = h.ask(self, s.Form, NAMES, list(given))
            self.assertTrue(type(made) is s.Form and h.same((made.start, made.end, made.stairs), given[:3]))
            self.assertTrue(h.body(made.least) and h.pair_of_numbers(made.by))
            if given[2] == ():
                self.assertEqual((made.least, made.by), ((1, 1), (0, 0)))
                continue
            for k in (0, 1):
                sizes = [corner[k] for corner in given[2]]
                free = None in sizes
                self.assertEqual(made.least[k], max(given[3][k], 1 + given[4][k]))
                if free:
                    self.assertEqual(made.by[k], given[4][k])
                else:
                    self.assertEqual(made.by[k], max(given[3][k], max(sizes) + given[4][k]) - max(sizes))
                kinds[(k, free)] = True
            for body in h.bodies_to(7):
                wanted = after(given, body)
                self.assertTrue(h.same(h.ask(self, s.end_size, ["form", "body"], [made, body]), wanted))
                self.assertEqual(after(told(made), body), wanted)
        self.assertEqual(len(kinds), 4)

    def test_terms_by_hand(self):
        made = s.Form(HERE, HERE, ((2, 3),), (5, 1), (1, -1))
        self.assertEqual((made.least, made.by), ((5, 1), (3, -1)))
        made = s.Form(HERE, HERE, ((2, 3),), (1, 1), (-7, -2))
        self.assertEqual((made.least, made.by), ((1, 1), (-1, -2)))
        made = s.Form(HERE, HERE, ((2, None), (None, 3)), (4, 5), (-7, 6))
        self.assertEqual((made.least, made.by), ((4, 7), (-7, 6)))
        made = s.Form(HERE, HERE, ((2, None),), (1, 1), (-2, -2))
        self.assertEqual((made.least, made.by), ((1, 1), (-1, -2)))
        made = s.Form(HERE, (0, (0, 0)), (), (4, 4), (5, 5))
        self.assertEqual((made.start, made.end, made.least, made.by), (HERE, (0, (0, 0)), (1, 1), (0, 0)))

    def test_equal_exactly_if_alike(self):
        dice = random.Random(1022)
        count = {True: 0, False: 0}
        for _ in range(2500):
            one, other = random_given(dice, most=2, span=2), random_given(dice, most=2, span=2)
            if dice.random() < 0.7:
                other = one[:3] + other[3:]
            alike = all(after(one, body) == after(other, body) for body in h.bodies_to(8))
            self.assertIs(s.Form(*one) == s.Form(*other), alike)
            self.assertIs(s.Form(*one) != s.Form(*other), not alike)
            count[alike] += 1
        self.assertTrue(min(count.values()) > 100, count)
        one = s.Form(HERE, HERE, ALL, (1, 1), (0, 0))
        self.assertFalse(one == s.Form((1, (1, 2)), HERE, ALL, (1, 1), (0, 0)))
        self.assertFalse(one == s.Form(HERE, (0, (2, 2)), ALL, (1, 1), (0, 0)))
        for value in h.any_values() + [told(one), ALL]:
            self.assertFalse(one == value)
            self.assertTrue(one != value)

    def test_products(self):
        dice = random.Random(1023)
        places = (HERE, (1, (5, 5)))
        for _ in range(500):
            one, other, last = [s.Form(*random_given(dice, places)) for _ in range(3)]
            if one.end != other.start:
                h.fails(self, NotJoined, lambda: one * other)
                continue
            before = (told(one), told(other))
            both = one * other
            self.assertEqual((told(one), told(other)), before)
            self.assertEqual((both.start, both.end), (one.start, other.end))
            self.assertEqual(both.stairs, met(one.stairs, moved(other.stairs, one.least, one.by)))
            for body in h.bodies_to(7):
                between = after(told(one), body)
                wanted = None if between is None else after(told(other), between)
                self.assertEqual(after(told(both), body), wanted)
                self.assertEqual(s.end_size(both, body), wanted)
            if other.end == last.start:
                self.assertTrue((one * other) * last == one * (other * last))

    def test_still_and_loads(self):
        dice = random.Random(1024)
        for _ in range(200):
            stairs = dice.choice([(), ALL, h.random_stairs(dice), h.random_stairs(dice)])
            by = (dice.randint(-4, 4), dice.randint(-4, 4))
            stay = h.ask(self, s.still, ["place", "stairs"], [HERE, stairs])
            self.assertTrue(h.same(told(stay), (HERE, HERE, stairs, (1, 1), (0, 0))))
            load = h.ask(self, s.load_form, ["place", "stairs", "by"], [HERE, stairs, by])
            self.assertEqual((load.start, load.end), (HERE, HERE))
            for body in h.bodies_to(9):
                self.assertEqual(s.end_size(stay, body), body if h.stairs_has(stairs, body) else None)
                later = tuple(max(1, item + more) for item, more in zip(body, by))
                held = h.stairs_has(stairs, body) and h.stairs_has(stairs, later)
                self.assertEqual(s.end_size(load, body), later if held else None)

    def test_partings(self):
        dice = random.Random(1025)
        count = {True: 0, False: 0}
        for _ in range(1200):
            one, other = random_given(dice, most=3), random_given(dice, most=3)
            if dice.random() < 0.7:
                other = one[:3] + dice.choice([other[3:], one[3:], (other[3], one[4]), (one[3], other[4])])
            unlike = [body for body in h.bodies_to(14) if after(one, body) != after(other, body)]
            first = h.ask(self, s.form_parting, ["one", "other"], [s.Form(*one), s.Form(*other)])
            self.assertTrue(h.same(first, unlike[0] if unlike else None), (one, other))
            self.assertIs(first is None, s.Form(*one) == s.Form(*other))
            count[first is None] += 1
        self.assertTrue(min(count.values()) > 100, count)
        # Where they start has no effect, where they end has for all that is held.
        given = (HERE, HERE, ((2, 3),), (1, 1), (0, 0))
        self.assertIsNone(s.form_parting(s.Form(*given), s.Form((4, (0, 0)), *given[1:])))
        self.assertEqual(s.form_parting(s.Form(*given), s.Form(HERE, (4, (0, 0)), *given[2:])), (1, 1))
        none = (HERE, HERE, (), (1, 1), (0, 0))
        self.assertIsNone(s.form_parting(s.Form(*none), s.Form(HERE, (4, (0, 0)), *none[2:])))

    def test_partings_of_endless_forms(self):
        one = s.Form(HERE, HERE, ALL, (1, 9), (-5, 0))
        self.assertEqual(s.form_parting(one, s.Form(HERE, HERE, ALL, (1, 9), (-6, 0))), (7, 1))
        self.assertEqual(s.form_parting(one, s.Form(HERE, HERE, ALL, (1, 9), (-5, -1))), (1, 10))
        self.assertEqual(s.form_parting(one, s.Form(HERE, HERE, ((None, 11),), (1, 9), (-5, 0))), (1, 12))
        self.assertEqual(s.form_parting(one, s.Form(HERE, HERE, ((8, None),), (1, 9), (-5, 0))), (9, 1))
        self.assertIsNone(s.form_parting(one, s.Form((2, (2, 2)), HERE, ALL, (1, 9), (-5, 0))))

    def test_least_loads(self):
        dice = random.Random(1026)
        sizes = {}
        for _ in range(400):
            one = s.Form(*random_given(dice, most=6))
            body = (dice.randint(1, 7), dice.randint(1, 7))
            loads = h.ask(self, s.least_loads, ["form", "body"], [one, body])
            out = [(p, q) for p in range(9) for q in range(9)
                   if not h.stairs_has(one.stairs, (body[0] + p, body[1] + q))]
            least = [pair for pair in out if not any(
                more != pair and more[0] <= pair[0] and more[1] <= pair[1] for more in out)]
            self.assertTrue(h.same(loads, least))
            sizes[len(least)] = True
        self.assertTrue({0, 1, 2, 3} <= set(sizes))
        self.assertEqual(s.least_loads(s.still(HERE, ()), (4, 4)), [(0, 0)])
        self.assertEqual(s.least_loads(s.still(HERE, ALL), (4, 4)), [])

    def test_rounds(self):
        dice = random.Random(1027)
        seen = {}
        for _ in range(500):
            one = s.Form(*random_given(dice, most=5))
            never = h.ask(self, s.endless, ["form"], [one])
            self.assertTrue(h.stairs(never))
            forms = {k: h.ask(self, s.repeated, ["form", "times"], [one, k]) for k in (0, 1, 2, 3, 5, 11, 40)}
            self.assertTrue(forms[0] == s.still(HERE, ALL) and forms[1] == one and forms[2] == one * one)
            self.assertTrue(forms[3] == one * forms[2] and forms[5] == forms[2] * forms[3])
            self.assertEqual(forms[40].stairs, s.repeated(one, 60).stairs if dice.random() < 0.2 else forms[40].stairs)
            for body in h.bodies_to(7):
                many, last = walked(one, body, 60)
                self.assertEqual(h.ask(self, s.rounds, ["form", "body"], [one, body]), many if many < 60 else None)
                self.assertIs(h.stairs_has(never, body), many == 60)
                for k, form_of in forms.items():
                    self.assertEqual(s.end_size(form_of, body), walked(one, body, k)[1] if many >= k else None)
                end = h.ask(self, s.rest, ["form", "body"], [one, body])
                self.assertTrue(h.same(end, has_grown(one, body)), (told(one), body))
                seen[(many == 60, end is None)] = True
        self.assertEqual(len(seen), 3, seen)

    def test_long_rounds(self):
        # One size grows while the other one falls: each round may bar what no other round bars.
        dice = random.Random(1029)
        corners = {}
        for _ in range(150):
            grows, falls = dice.randint(1, 4), -dice.randint(1, 4)
            by = dice.choice([(grows, falls), (falls, grows)])
            one = s.Form(HERE, HERE, h.random_stairs(dice, 18), (dice.randint(1, 4), dice.randint(1, 4)), by)
            for times in (2, 3, 6, 30):
                many = s.repeated(one, times)
                for body in h.bodies_to(20):
                    done, last = walked(one, body, times)
                    self.assertEqual(after(told(many), body), last if done == times else None, (told(one), times))
                corners[len(many.stairs)] = True
        self.assertTrue({0, 1, 2, 3, 4, 5} <= set(corners), corners)

    def test_long_ways_round(self):
        # Nine digits: nothing goes round one by one.
        far = 10 ** 9 - 1
        one = s.Form(HERE, HERE, ((far, None), (None, 1)), (1, 1), (1, -1))
        self.assertEqual(s.rounds(one, (1, far)), None)
        self.assertEqual(s.rounds(one, (5, far)), far - 4)
        self.assertEqual(s.rounds(one, (far, far)), 1)
        wide = s.Form(HERE, HERE, ((far, None),), (1, 1), (1, -1))
        self.assertEqual(s.end_size(s.repeated(wide, far - 5), (5, far)), (far, 5))
        self.assertIsNone(s.end_size(s.repeated(wide, far), (5, far)))
        self.assertEqual(s.end_size(s.repeated(wide, far), (1, far)), (far + 1, 1))
        loss = s.Form(HERE, HERE, ALL, (3, 1), (-far, -1))
        self.assertTrue(s.repeated(loss, far) == s.Form(HERE, HERE, ALL, (3, 1), (-far * far, -far)))
        self.assertEqual(s.rest(loss, (far, far)), (3, 1))
        self.assertIsNone(s.rest(one, (1, far)))
        gain = s.Form(HERE, HERE, ((far, far),), (1, 1), (2, 0))
        self.assertEqual(s.rounds(gain, (far - 10, 3)), 6)
        stay = s.Form(HERE, HERE, ((None, far),), (1, 7), (0, 0))
        self.assertEqual(s.endless(stay), ((None, far),))
        self.assertEqual(s.rest(stay, (5, 5)), (5, 7))
        more = s.Form(HERE, HERE, ((None, far),), (1, 7), (0, 1))
        self.assertEqual(s.endless(more), ())
        self.assertEqual(s.rounds(more, (5, 1)), far - 5)
        self.assertEqual(s.repeated(more, far - 6).stairs, ((None, 7),))
        self.assertEqual(s.repeated(more, far - 5).stairs, ((None, 6),))
        self.assertEqual(s.repeated(more, far - 4).stairs, ())

    def test_endless_corners(self):
        dice = random.Random(1028)
        for _ in range(150):
            steps = h.random_stairs(dice, 4)
            one = s.Form(HERE, HERE, steps, (dice.randint(1, 4), dice.randint(1, 4)), (dice.randint(-2, 2), dice.randint(-2, 2)))
            never = s.endless(one)
            held = {body for body in h.bodies_to(12) if walked(one, body, 80)[0] == 80}
            self.assertEqual(h.held_set(never, 12), held)
            self.assertEqual(s.repeated(one, 10 ** 9 - 1).stairs, never)
            # What goes on for ever is held again behind each round.
            self.assertEqual(met(never, moved(never, one.least, one.by)), never)
        self.assertEqual(barred([]), ALL)

    def test_wrong_inputs(self):
        place = lambda error, name: (name, error, is_place)
        h.refuse(self, s.Form, [
            place(BadStart, "start"), place(BadEnd, "end"), ("stairs", BadStairs, h.stairs), ("least", BadLeast, h.body),
            ("by", BadBy, h.pair_of_numbers)], [HERE, (2, (-3, 4)), ((1, 2),), (1, 1), (0, -4)])
        h.refuse(self, s.still, [place(BadPlace, "place"), ("stairs", BadStairs, h.stairs)], [HERE, ALL])
        h.refuse(self, s.load_form, [
            place(BadPlace, "place"), ("stairs", BadStairs, h.stairs), ("by", BadBy, h.pair_of_numbers)], [HERE, ALL, (1, 2)])
        for value in ((-1, (0, 0)), (True, (0, 0)), (0, [0, 0]), [0, (0, 0)], (0, (0, True)), (0, (0, 0), 1), (0, 0)):
            h.fails(self, BadStart, s.Form, value, HERE, ALL, (1, 1), (0, 0))
            h.fails(self, BadEnd, s.Form, HERE, value, ALL, (1, 1), (0, 0))
            h.fails(self, BadPlace, s.still, value, ALL)
        one, away = s.still(HERE, ALL), s.Form(HERE, (0, (0, 0)), ALL, (1, 1), (0, 0))
        a_form, a_body = ("form", BadForm, form), ("body", BadBody, h.body)
        times = ("times", BadTimes, h.from_zero)
        for function in (s.end_size, s.least_loads, s.rounds, s.rest):
            h.refuse(self, function, [a_form, a_body], [one, (2, 3)])
        h.refuse(self, s.form_parting, [("one", BadForm, form), ("other", BadForm, form)], [one, away])
        h.refuse(self, s.repeated, [a_form, times], [one, 3])
        h.refuse(self, s.endless, [a_form], [one])
        # What is not round is refused behind all else.
        for function in (s.rounds, s.rest):
            h.fails(self, NotRound, function, away, (1, 1))
            h.fails(self, BadBody, function, away, (0, 1))
        h.fails(self, NotRound, s.repeated, away, 0)
        h.fails(self, BadTimes, s.repeated, away, -1)
        h.fails(self, NotRound, s.endless, away)

    def test_wrong_factors(self):
        one, away = s.still(HERE, ALL), s.Form(HERE, (0, (0, 0)), ALL, (1, 1), (0, 0))
        for value in [value for value in h.any_values() if not form(value)]:
            h.fails(self, BadForm, lambda: one * value)
            h.fails(self, BadForm, lambda: value * one)
        h.fails(self, NotJoined, lambda: away * one)
        self.assertTrue(one * away == away)


if __name__ == "__main__":
    unittest.main()
