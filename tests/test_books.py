import random
import unittest

from gapstairs import books as s
from gapstairs.errors import BadBody, BadBook, BadForms, BadPlace, BadRow, NotRising
from gapstairs.forms import Form, still
from gapstairs.stairs import notches
from tests import helpers as h
from tests.test_forms import ALL, after, form, is_place, random_given, told

PLACES = ((0, (0, 0)), (0, (4, -1)), (2, (3, 3)))
BOOK = ("book", BadBook, lambda thing: type(thing) is s.Book)
START = ("start", BadPlace, is_place)
ENDS = [("one", BadPlace, is_place), ("other", BadPlace, is_place)]
SMALL = s.Book([Form(PLACES[0], PLACES[1], ((2, 3), (4, 1)), (1, 1), (1, 0)), Form(PLACES[1], PLACES[0], ((3, None),), (2, 1), (0, 2))])


def random_book(dice, rising=False, many=5):
    forms = []
    for _ in range(dice.randint(1, many)):
        start, end, stairs, least, by = random_given(dice, PLACES, 5, 2)
        if stairs != ALL or dice.random() < 0.4:
            by = tuple(abs(item) for item in by) if rising else by
            forms.append(Form(start, end, stairs, least, by))
    return s.Book(forms or [still(PLACES[0], ALL)])


def walked_from(book, start, body, most=40):
    """All places and bodies to which rows lead, those that are too great left out."""
    found = [(start, body)]
    known = set(found)
    for place, size in found:
        for one in book.forms:
            later = after(told(one), size) if one.start == place else None
            if later and max(later) <= most and (one.end, later) not in known:
                known.add((one.end, later))
                found.append((one.end, later))
    return known


def least_of(bodies):
    return sorted(body for body in bodies if not any(
        other != body and other[0] <= body[0] and other[1] <= body[1] for other in bodies))


def done(book, place, body, row):
    """Where a row leads a body, and what it is then; None if it cannot do it."""
    for number in row:
        one = book.forms[number]
        body = after(told(one), body) if body and one.start == place else None
        place = one.end
    return (place, body) if body else None


def is_closed(book, start, body, table):
    """The words of the point, for a dict from places to lists of bodies."""
    if not any(one[0] <= body[0] and one[1] <= body[1] for one in table.get(start, [])):
        return False
    for one in book.forms:
        for size in table.get(one.start, []):
            later = after(told(one), size)
            if later and not any(less[0] <= later[0] and less[1] <= later[1] for less in table.get(one.end, [])):
                return False
    return True


class Books(unittest.TestCase):
    def test_books(self):
        dice = random.Random(1041)
        for _ in range(50):
            forms = list(random_book(dice).forms)
            book = h.ask(self, s.Book, ["forms"], [forms])
            self.assertTrue(type(book.forms) is tuple and all(a == b for a, b in zip(book.forms, forms)))
            self.assertTrue(book == s.Book(tuple(forms)) and not book != s.Book(forms))
            self.assertFalse(book == s.Book(forms + [still((9, (9, 9)), ALL)]) or book == book.forms or book == forms)
            forms.append(still(PLACES[0], ()))
            self.assertFalse(book == s.Book(forms))
        s.Book([still(PLACES[0], ALL)] * 20)
        for value in h.any_values() + [[], (), [1], [SMALL.forms[0], None], [SMALL.forms[0]] * 21, {SMALL.forms[0].start: 1}]:
            if not (h.list_of(form)(value) and value and len(value) <= 20):
                h.fails(self, BadForms, s.Book, value)
            self.assertFalse(SMALL == value)

    def test_rows(self):
        dice = random.Random(1042)
        kinds = {}
        for _ in range(400):
            book = random_book(dice)
            start = dice.choice(PLACES)
            row = [dice.randrange(len(book.forms)) for _ in range(dice.randint(0, 4))]
            places = [start] + [book.forms[number].end for number in row]
            right = all(book.forms[number].start == place for number, place in zip(row, places))
            kinds[(right, min(len(row), 2))] = True
            if not right:
                h.fails(self, BadRow, s.row_form, book, start, row)
                continue
            made = h.ask(self, s.row_form, ["book", "start", "row"], [book, start, row])
            self.assertTrue(s.row_form(book, start, tuple(row)) == made)
            self.assertEqual((made.start, made.end), (start, places[-1]))
            for body in h.bodies_to(6):
                end = done(book, start, body, row)
                self.assertEqual(after(told(made), body), end and end[1])
        self.assertEqual(len(kinds), 5)
        self.assertTrue(s.row_form(SMALL, (7, (7, 7)), []) == still((7, (7, 7)), ALL))
        for row in ([2], [-1], [False], [0, 0], [1], {}, None, [None], [[0]], {0: 0}):
            h.fails(self, BadRow, s.row_form, SMALL, PLACES[0], row)

    def test_what_is_reached(self):
        dice = random.Random(1043)
        sizes = {}
        for _ in range(300):
            book = random_book(dice)
            start, body = dice.choice(PLACES), (dice.randint(1, 5), dice.randint(1, 5))
            known = walked_from(book, start, body)
            table = h.ask(self, s.reached, ["book", "start", "body"], [book, start, body])
            wanted = {place: least_of({b for p, b in known if p == place}) for place in sorted({p for p, _ in known})}
            self.assertTrue(h.same(table, wanted), (table, wanted))
            rows = h.ask(self, s.rows_reached, ["book", "start", "body"], [book, start, body])
            self.assertEqual(list(rows), [(place, one) for place in wanted for one in wanted[place]])
            for (place, one), row in rows.items():
                self.assertTrue(type(row) is list and done(book, start, body, row) == (place, one))
            self.assertIs(h.ask(self, s.is_closed_table, ["book", "start", "body", "thing"], [book, start, body, table]), True)
            self.changed_tables(dice, book, start, body, table, known)
            sizes[(len(table), max(len(bodies) for bodies in table.values()) > 1)] = True
        self.assertTrue({(1, False), (2, True), (3, True)} <= set(sizes), sizes)

    def changed_tables(self, dice, book, start, body, table, known):
        for _ in range(6):
            near = {place: list(bodies) for place, bodies in table.items()}
            place = dice.choice(list(near))
            kind = dice.randrange(5)
            if kind == 0:
                near[place].pop(dice.randrange(len(near[place])))
            elif kind == 1:
                near[dice.choice(PLACES)] = [(dice.randint(1, 4), dice.randint(1, 4))]
            elif kind == 2:
                near[place] = [(1, 1)]
            elif kind == 3:
                near[place] = [(a + dice.randint(0, 1), b) for a, b in near[place]]
            else:
                near[place].append((dice.randint(1, 4), dice.randint(1, 4)))
            kinds = all(bodies and len(set(bodies)) == len(bodies) for bodies in near.values())
            right = kinds and is_closed(book, start, body, near)
            self.assertIs(s.is_closed_table(book, start, body, near), right)
            turned = {place: tuple(near[place]) for place in reversed(list(near))}
            self.assertIs(s.is_closed_table(book, start, body, turned), right)
            if right:
                # In any closed table the end of every row is a key, with a body that is at most the one there.
                for end, one in known:
                    self.assertTrue(any(less[0] <= one[0] and less[1] <= one[1] for less in near.get(end, [])))

    def test_closed_tables(self):
        table = s.reached(SMALL, PLACES[0], (1, 1))
        body = (1, 1)
        self.assertEqual(table, {PLACES[0]: [(1, 1)], PLACES[1]: [(2, 1)]})
        for near in (list(table.items()), {**table, 1: [(1, 1)]}, {**table, (0, (0, True)): [(1, 1)]}, {**table, PLACES[2]: []},
                     {**table, PLACES[2]: [(1, 1), (1, 1)]}, {**table, PLACES[2]: [(1, True)]}, {**table, PLACES[2]: [(9, 9), (0, 5)]}, {**table, PLACES[2]: [[1, 1]]},
                     {**table, PLACES[2]: {(1, 1): 1}}, {**table, (True, (0, 0)): [(1, 1)]}, {**table, (-1, (0, 0)): [(1, 1)]},
                     {PLACES[0]: [(1, 1)]}, {PLACES[1]: [(2, 1)]}, {}, {**table, PLACES[0]: [(2, 1)]}, {**table, PLACES[0]: (1, 1)}):
            self.assertIs(s.is_closed_table(SMALL, PLACES[0], body, near), False)
        for near in ({**table, PLACES[2]: [(9, 9), (1, 20)]}, {**table, (5, (5, 5)): ((1, 1),)}, {**table, PLACES[1]: [(1, 2), (1, 1)]}):
            self.assertIs(s.is_closed_table(SMALL, PLACES[0], body, near), True)
        for value in h.any_values():
            self.assertIs(s.is_closed_table(SMALL, PLACES[0], body, value), False)

    def test_who_is_able(self):
        dice = random.Random(1044)
        sizes = {}
        for _ in range(250):
            book = random_book(dice, rising=True)
            one, other = dice.choice(PLACES), dice.choice(PLACES)
            stairs = h.ask(self, s.able, ["book", "one", "other"], [book, one, other])
            self.assertTrue(h.stairs(stairs))
            for body in h.bodies_to(7):
                wanted = any(place == other for place, _ in walked_from(book, one, body, 60))
                self.assertIs(h.stairs_has(stairs, body), wanted)
            rows, tables = h.ask(self, s.able_papers, ["book", "one", "other"], [book, one, other])
            self.assertTrue(type(s.able_papers(book, one, other)) is tuple)
            self.assertEqual((list(rows), list(tables)), (list(stairs), notches(stairs)))
            for corner, row in rows.items():
                big = tuple(item or 99 for item in corner)
                self.assertEqual((done(book, one, big, row) or [None])[0], other)
            for body, table in tables.items():
                self.assertTrue(is_closed(book, one, body, table) and other not in table)
            names = ["book", "one", "other", "stairs", "rows", "tables"]
            self.assertIs(h.ask(self, s.are_able_papers, names, [book, one, other, stairs, rows, tables]), True)
            self.other_papers(dice, book, one, other, stairs, rows, tables)
            sizes[(one == other, min(len(stairs), 3))] = True
        self.assertTrue({(True, 1), (False, 0), (False, 1), (False, 2), (False, 3)} <= set(sizes), sizes)

    def other_papers(self, dice, book, one, other, stairs, rows, tables):
        for wrong in [(), ALL, stairs[1:], stairs[:-1], h.random_stairs(dice, 4), h.random_stairs(dice, 4)]:
            if wrong != stairs:
                some_rows = {corner: rows.get(corner, list(rows.values())[0] if rows else []) for corner in wrong}
                some = {body: tables.get(body, list(tables.values())[0] if tables else {}) for body in notches(wrong)}
                self.assertIs(s.are_able_papers(book, one, other, wrong, some_rows, some), False)
                self.assertIs(s.are_able_papers(book, one, other, wrong, rows, tables), False)
        bent = [(list(stairs), rows, tables), (stairs, list(rows), tables), (stairs, {**rows, (77, 77): []}, tables),
                (stairs, rows, {**tables, (77, 77): {}}), (stairs, rows, list(tables.items())), (stairs, rows, None)]
        for row in rows:
            bent.append((stairs, {**rows, row: rows[row] + [-1]}, tables))
            bent.append((stairs, {**rows, row: None}, tables))
        for body in tables:
            bent.append((stairs, rows, {**tables, body: {}}))
            bent.append((stairs, rows, {**tables, body: {**tables[body], other: [(1, 1)]}}))
        for papers in bent:
            self.assertIs(s.are_able_papers(book, one, other, *papers), False)
        self.assertIs(s.are_able_papers(book, one, other, stairs, {k: tuple(rows[k]) for k in reversed(list(rows))}, tables), True)

    def test_papers_of_books_that_do_not_rise(self):
        # Papers may show it for any book, though none are told.
        less = Form(PLACES[0], PLACES[0], ALL, (1, 1), (-1, 0))
        out = Form(PLACES[0], PLACES[1], ((2, None),), (1, 1), (0, 0))
        book = s.Book([less, out])
        for function in (s.able, s.able_papers):
            h.fails(self, NotRising, function, book, PLACES[0], PLACES[1])
            h.fails(self, BadPlace, function, book, PLACES[0], None)
        self.assertEqual(s.reached(book, PLACES[0], (9, 4)), {PLACES[0]: [(1, 4)], PLACES[1]: [(1, 4)]})
        self.assertEqual(s.rows_reached(book, PLACES[0], (3, 4))[(PLACES[1], (1, 4))], [0, 0, 1])
        self.assertIs(s.are_able_papers(book, PLACES[0], PLACES[1], ((4, None),), {(4, None): [0, 0, 1]}, {(5, 1): {PLACES[0]: [(1, 1)]}}), False)
        shut = s.Book([Form(PLACES[0], PLACES[0], ((3, 3),), (1, 1), (-1, 0)), Form(PLACES[0], PLACES[1], ((2, 3),), (1, 1), (0, 0))])
        rows = {(3, 3): [0, 1]}
        tables = {(1, 4): {PLACES[0]: [(1, 4)]}, (4, 1): {PLACES[0]: [(4, 1)]}}
        self.assertIs(s.are_able_papers(shut, PLACES[0], PLACES[1], ((3, 3),), rows, tables), True)
        self.assertIs(s.are_able_papers(shut, PLACES[0], PLACES[1], ((2, 3),), {(2, 3): [1]}, tables), False)

    def test_large_numbers(self):
        far = 999999999
        book = s.Book([Form(PLACES[0], PLACES[1], ((far, None),), (1, 1), (0, far)), Form(PLACES[1], PLACES[2], ((None, far + 5),), (far, 1), (0, 0))])
        self.assertEqual(s.able(book, PLACES[0], PLACES[2]), ((far, 5),))
        self.assertEqual(s.able_papers(book, PLACES[0], PLACES[2])[0], {(far, 5): [0, 1]})
        self.assertEqual(s.reached(book, PLACES[0], (2, 5))[PLACES[2]], [(far, far + 5)])
        away = (far, (-far, far))
        self.assertEqual(s.reached(book, away, (far, far)), {away: [(far, far)]})
        self.assertEqual(s.able(book, away, away), ALL)
        self.assertEqual(s.able(book, away, PLACES[0]), ())

    def test_long_ways_down(self):
        # Ever less, by steps too many to be gone one by one.
        far = 999999999
        less, low = Form(PLACES[0], PLACES[0], ALL, (1, 3), (-1, 0)), Form(PLACES[0], PLACES[1], ((5, None),), (1, 1), (0, -7))
        back = Form(PLACES[1], PLACES[0], ALL, (1, 1), (3, 0))
        book = s.Book([less, low, back])
        table = s.reached(book, PLACES[0], (far, far))
        self.assertEqual(table, {PLACES[0]: [(1, 3), (4, 1)], PLACES[1]: [(1, 1)]})
        self.assertIs(s.is_closed_table(book, PLACES[0], (far, far), table), True)
        # By way of another place, each time a little less; some of it goes round within the round.
        out, home = Form(PLACES[0], PLACES[2], ALL, (1, 1), (2, -1)), Form(PLACES[2], PLACES[0], ALL, (7, 2), (-3, 0))
        self.assertEqual(s.reached(s.Book([out, home]), PLACES[0], (far, 5)), {PLACES[0]: [(7, 2)], PLACES[2]: [(9, 1)]})
        book = s.Book([out, home, less, Form(PLACES[2], PLACES[2], ALL, (1, 6), (0, -1))])
        table = s.reached(book, PLACES[2], (far, far))
        self.assertEqual(table, {PLACES[0]: [(1, 3), (7, 2)], PLACES[2]: [(3, 2), (9, 1)]})
        self.assertIs(s.is_closed_table(book, PLACES[2], (far, far), table), True)
        self.assertTrue(all(max(body) < 12 for bodies in table.values() for body in bodies))
        # A short row is found, whatever long ones there are.
        away = Form(PLACES[0], PLACES[0], ALL, (1, 3), (-far, 0))
        self.assertEqual(s.rows_reached(s.Book([less, away]), PLACES[0], (far, 4)), {(PLACES[0], (1, 4)): [1]})

    def test_rows_of_long_ways(self):
        for top in (2500, 4001):
            less, out = Form(PLACES[0], PLACES[0], ALL, (1, 3), (-1, 0)), Form(PLACES[0], PLACES[1], ((5, None),), (1, 1), (0, -2))
            back = Form(PLACES[1], PLACES[0], ALL, (1, 1), (3, 0))
            book = s.Book([less, out, back])
            rows = s.rows_reached(book, PLACES[0], (top, 9))
            self.assertEqual(rows.keys(), {(PLACES[0], (1, 3)), (PLACES[0], (4, 1)), (PLACES[1], (1, 1))})
            for (place, body), row in rows.items():
                self.assertEqual(done(book, PLACES[0], (top, 9), row), (place, body))

    def test_wrong_inputs(self):
        # From the one place to the other and back.
        row = lambda thing: type(thing) in (list, tuple) and all(h.number(item) and item == k % 2 for k, item in enumerate(thing))
        h.refuse(self, s.row_form, [BOOK, START, ("row", BadRow, row)], [SMALL, PLACES[0], [0, 1]])
        for function in (s.reached, s.rows_reached):
            h.refuse(self, function, [BOOK, START, ("body", BadBody, h.body)], [SMALL, PLACES[0], (1, 1)])
        h.refuse(self, s.is_closed_table, [BOOK, START, ("body", BadBody, h.body), ("thing", None, None)], [SMALL, PLACES[0], (1, 1), 1])
        for function in (s.able, s.able_papers):
            h.refuse(self, function, [BOOK] + ENDS, [SMALL, PLACES[0], PLACES[1]])
        rest = [("stairs", None, None), ("rows", None, None), ("tables", None, None)]
        h.refuse(self, s.are_able_papers, [BOOK] + ENDS + rest, [SMALL, PLACES[0], PLACES[1], (), {}, {}])
        self.assertTrue(form(SMALL.forms[0]))
        for k in range(3):
            for value in h.any_values():
                papers = [s.able(SMALL, PLACES[0], PLACES[1])] + list(s.able_papers(SMALL, PLACES[0], PLACES[1]))
                papers[k] = value
                self.assertIs(s.are_able_papers(SMALL, PLACES[0], PLACES[1], *papers), False)


if __name__ == "__main__":
    unittest.main()
