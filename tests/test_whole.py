"""What holds over the whole program."""

import importlib
import inspect
import unittest

from gapstairs import errors
from gapstairs.drawings import Drawing
from tests import helpers as h
from tests.test_language import INTERFACE, METHODS

PEN = h.pen(0, 0, 7, 7)
GATE = Drawing(PEN[:3] + [(6, 0, 7, 4)])
ONE, OTHER, BODY = (2, 2), (9, 2), (2, 2)
ALL = ((None, None),)
# Names of parameters, with values that most functions take under them.
GOOD = {
    "drawing": GATE, "body": BODY, "one": ONE, "other": OTHER, "spot": ONE, "start": ONE, "i": 0, "j": 1, "stairs": ((2, 3),),
    "corner": (2, 2), "most": 2, "many": 1, "side": "up", "by": 2, "spots": [ONE, OTHER], "calendar": [GATE, Drawing(PEN[:3])],
    "goal": Drawing(PEN[:3]), "promises": [(ONE, OTHER, (), ALL)], "notes": [(GATE, (ONE, [("go", "up")], [(), ("up",)]))],
    "line": "put 0 0 1 1", "text": "none", "deed": ("put", (0, 0, 1, 1)), "thing": None, "case": (BODY, ONE), "row": [("go", "up")],
    "move": ("go", "up"), "cases": [(BODY, ONE), ((1, 1), ONE)], "block": (20, 0, 21, 1), "times": 3, "way": [ONE, (3, 2)],
}


def as_tuples(value):
    return tuple(value) if type(value) is list else value


class Whole(unittest.TestCase):
    def each(self):
        for module, names in INTERFACE.items():
            for name in names.split():
                yield module, name, getattr(importlib.import_module("gapstairs." + module), name)

    def test_each_row_of_the_interface(self):
        found = list(self.each())
        for module, name, thing in found:
            self.assertTrue(callable(thing), (module, name))
            self.assertEqual(thing.__module__, "gapstairs." + module)
            self.assertEqual(thing.__name__, name)
        self.assertEqual(len(found), 291)
        for name, listed in METHODS.items():
            kind, = [thing for _, known, thing in found if known == name]
            self.assertLessEqual(set(listed.split()), set(vars(kind)))
        from gapstairs.machines import MOVES, SENSES
        from gapstairs.touching import SIDES
        self.assertEqual((len(MOVES), MOVES[4], MOVES[6]), (12, ("slide", "left", "down"), ("slide", "down", "left")))
        self.assertEqual(SENSES, SIDES + ("lost",))

    def test_objects_are_equal_to_no_value_of_another_kind(self):
        values = h.any_values()
        kinds = [value for value in values if type(value).__module__.startswith("gapstairs.")]
        self.assertEqual(len({type(value) for value in kinds}), 9)
        for one in kinds:
            for other in values:
                if type(one) is not type(other):
                    self.assertTrue(one != other and not one == other and not other == one)

    def test_equal_arguments_give_equal_results(self):
        count = 0
        for module, name, thing in self.each():
            if inspect.isclass(thing):
                continue
            names = list(inspect.signature(thing).parameters)
            if not all(one in GOOD or one == "senses" for one in names):
                continue
            names = [one for one in names if one != "senses"]
            values = [GOOD[one] for one in names]
            try:
                wanted = thing(*values)
            except errors.GapError as why:
                for again in (values, [as_tuples(value) for value in values]):
                    self.assertEqual(vars(h.fails(self, type(why), thing, *again)), vars(why))
                continue
            self.assertTrue(h.same(h.ask(self, thing, names, [h.snapshot(value) for value in values]), wanted), name)
            self.assertTrue(h.same(thing(*[as_tuples(value) for value in values]), wanted), name)
            count += 1
        self.assertGreater(count, 100)

    def test_the_first_wrong_parameter_is_told(self):
        """Of two wrong parameters that are named alike everywhere, the first one raises its error."""
        expected = {"drawing": errors.BadDrawing, "body": errors.BadBody, "calendar": errors.BadCalendar, "stairs": errors.BadStairs}
        for module, name, thing in self.each():
            if inspect.isclass(thing) or name.startswith(("is_", "are_")):
                continue
            names = list(inspect.signature(thing).parameters)
            if names and names[0] in expected:
                for value in h.any_values():
                    if type(value) is not Drawing and not h.stairs(value) and not h.body(value):
                        if names[0] != "calendar" or not h.list_of(h.drawing)(value) or not value:
                            h.fails(self, expected[names[0]], thing, value, *[None] * (len(names) - 1 - ("senses" in names)))


if __name__ == "__main__":
    unittest.main()
