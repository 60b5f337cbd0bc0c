import random
import unittest

from gapstairs.desk import Desk
from gapstairs.deskwords import deed_text, read_deed, stairs_text
from gapstairs.drawings import Drawing
from gapstairs.errors import BadDeed, BadLine, BadText, BadYard, GapError
from gapstairs.yard import Yard
from tests import helpers as h
from tests import yards as o
from tests.test_yard import do, filled, state
from tests.yards import PEN, Record, Stop


def answer(yard, line):
    """What a desk says, by the words of the point."""
    words = line.split(" ")
    try:
        deed = read_deed(line)
    except BadText:
        deed = None
    try:
        if deed is not None:
            do(yard, deed)
            return "done"
        if line in ("undo", "redo"):
            getattr(yard, line)()
            return "done"
        if line == "changed":
            return "; ".join(f"{one} {other} {stairs_text(a)} to {stairs_text(b)}" for (one, other), (a, b) in yard.changed().items()) or "nothing"
        if len(words) == 3 and o.is_word(words[1]) and o.is_word(words[2]):
            if words[0] == "stairs":
                return stairs_text(yard.stairs_of(*words[1:]))
            if words[0] == "lived":
                return stairs_text(yard.lived(*words[1:]))
            if words[0] == "sure":
                return {True: "yes", False: "no", None: "perhaps"}[yard.sure(*words[1:])]
    except GapError:
        return "refused"
    return "what"


class Desks(unittest.TestCase):
    def test_by_hand(self):
        yard = Yard(Drawing(PEN[:3] + [(6, 0, 7, 4)]))
        desk = Desk(yard)
        for line, told in [
                ("undo", "refused"), ("changed", "nothing"), ("name inn 2 2", "done"), ("name inn 3 3", "refused"), ("name out 9 2", "done"),
                ("stairs inn out", "4:2"), ("stairs out inn", "4:2"), ("stairs out out", "-:-"), ("stairs inn no", "refused"), ("stairs inn", "what"),
                ("stairs inn out inn", "what"), ("stairs Inn out", "what"), ("stairs inn Out", "what"), ("sure inn o1", "what"), ("sure inn out", "perhaps"), ("lived inn out", "4:2"), ("put 6 4 7 5", "done"),
                ("changed", "inn out 4:2 to 4:1"), ("lived inn out", "4:2"), ("promise inn out none 4:2", "done"), ("promise out inn 1:1 4:2", "done"),
                ("put 6 0 7 7", "refused"), ("take 6 4 7 5", "done"), ("changed", "inn out 4:1 to 4:2"), ("attempt name mid 3 3 ; drop no", "refused"),
                ("name mid 3 3", "done"), ("put 6 0 7 5", "done"), ("changed", "inn out 4:2 to 4:1; mid out 3:2 to 3:1"), ("undo", "done"),
                ("changed", "nothing"), ("redo", "done"), ("redo", "refused"), ("take 6 0 7 5", "done"),
                ("note inn go.right,go.up free,right,right+up", "done"), ("sure inn out", "no"), ("sure inn inn", "yes"), ("sure inn no", "refused"),
                ("note inn go.right free,left", "refused"), ("drop inn", "refused"), ("slide 6 0 7 4 up 3", "refused"), ("slide 6 0 7 4 up 40", "what"),
                ("", "what"), ("hello", "what"), ("changed ", "what"), (" undo", "what"), ("UNDO", "what"), ("undo undo", "what"),
                ("stairs  inn out", "what"), ("lived inn", "what"), ("sure", "what"), ("plan", "what"), ("attempt ", "what"), ("begin", "what"),
                ("name inn 2 2 ; undo", "what"), ("name inn 2 2\n", "what")]:
            self.assertEqual(desk.say(line), told, line)
        self.assertEqual(len(yard.log()), 10)
        self.assertEqual(Desk(yard=Yard(Drawing([]))).say(line="changed"), "nothing")

    def test_nobody_gets_through(self):
        yard = filled(Drawing(PEN))
        desk = Desk(yard)
        self.assertEqual(desk.say("stairs inn out"), "none")
        self.assertEqual(desk.say("take 0 0 7 1"), "done")
        self.assertEqual(desk.say("changed"), "inn out none to 4:4")

    def test_all_that_is_said(self):
        seen = {}
        for seed in range(25):
            dice = random.Random(1161 + seed)
            drawing = Drawing(PEN[:dice.randint(0, 4)])
            yard, beside, record = Yard(drawing), Yard(drawing), Record(drawing)
            desk = Desk(yard)
            for _ in range(40):
                kind = dice.random()
                if kind < 0.5:
                    deed = o.random_deed(dice, record)
                    try:
                        line = deed_text(o.logged(deed))
                    except BadDeed:
                        continue
                    later = record.copy()
                    try:
                        later.do(deed)
                        record = later
                    except Stop:
                        pass
                else:
                    line = dice.choice(["undo", "redo", "changed", "changed", "what"] + [
                        f"{ask} {dice.choice(o.WORDS[:6])} {dice.choice(o.WORDS[:6])}" for ask in ("stairs", "lived", "sure", "plan")])
                told = desk.say(line)
                self.assertEqual(told, answer(beside, line), line)
                self.assertTrue(h.same(state(yard), state(beside)))
                seen[told] = True
        self.assertTrue({"done", "refused", "what", "yes", "no", "perhaps", "nothing", "none"} <= set(seen), list(seen))

    def test_wrong_inputs(self):
        desk = Desk(Yard(Drawing([])))
        for value in h.any_values():
            if type(value) is not str:
                h.fails(self, BadLine, desk.say, value)
            if type(value) is not Yard:
                h.fails(self, BadYard, Desk, value)
        h.fails(self, BadYard, Desk, desk)


if __name__ == "__main__":
    unittest.main()
