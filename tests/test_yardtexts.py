import random
import unittest

from gapstairs import yardtexts as s
from gapstairs.deskwords import deed_text, read_deed
from gapstairs.drawings import Drawing
from gapstairs.errors import BadText, BadYard, GapError, NothingUndone
from gapstairs.yard import Yard
from tests import helpers as h
from tests import yards as o
from tests.test_yard import do, filled, state
from tests.yards import PEN, Record, Stop


def random_yard(dice, many=15):
    blocks = PEN[:dice.randint(0, 4)] if dice.random() < 0.6 else h.random_blocks(dice, dice.choice([1, 12]), 6, 4)
    yard, record = Yard(Drawing(blocks)), Record(Drawing(blocks))
    for _ in range(many):
        deed = o.random_deed(dice, record)
        later = record.copy()
        try:
            later.do(deed)
        except Stop:
            continue
        record = later
        do(yard, deed)
    return yard


def first_wrong(text):
    """The first line, from 1 on, that no text of a Yard has there; None for the text of a Yard."""
    lines = text.split("\n")
    words = lines[0].split(" ")
    blocks = []
    try:
        for word in words[1:]:
            told = [int(part) for part in word.split(",")]
            blocks.append(tuple(told))
            assert word == ",".join(map(str, told)) and h.block(blocks[-1]) and max(map(abs, told)) <= 999999999
        assert words[0] == "begin" and blocks == sorted(set(blocks)) and len(blocks) <= 12
    except (ValueError, AssertionError):
        return 1
    yard = Yard(Drawing(blocks))
    for k, line in enumerate(lines[1:]):
        try:
            do(yard, read_deed(line))
        except GapError:
            return k + 2
    return None


class Texts(unittest.TestCase):
    def test_by_hand(self):
        yard = filled()
        yard.promise("out", "inn", (), ((4, 2),))
        yard.attempt([("put", (-9, -9, -8, -8)), ("note", "inn", [], [()])])
        yard.slide((-9, -9, -8, -8), "left", 2)
        text = ("begin 0,0,1,7 0,0,7,1 0,6,7,7 6,0,7,4\nname inn 2 2\nname out 9 2\npromise out inn none 4:2\n"
                "attempt put -9 -9 -8 -8 ; note inn none free\nslide -9 -9 -8 -8 left 2")
        self.assertEqual(h.ask(self, s.yard_text, ["yard"], [yard]), text)
        self.assertTrue(s.read_yard(text=text) == yard)
        self.assertEqual(s.yard_text(Yard(Drawing([]))), "begin")
        self.assertTrue(s.read_yard("begin") == Yard(Drawing([])))

    def test_a_yard_and_its_text(self):
        dice = random.Random(1171)
        for _ in range(50):
            yard = random_yard(dice)
            for _ in range(dice.randint(0, 2)):
                if len(yard):
                    yard.undo()
            before = state(yard)
            text = s.yard_text(yard)
            lines = text.split("\n")
            first = yard.calendar()[0]
            self.assertEqual(lines[0].split(" "), ["begin"] + [",".join(map(str, block)) for block in first.blocks])
            self.assertEqual(lines[1:], [deed_text(deed) for deed in yard.log()])
            read = s.read_yard(text)
            self.assertTrue(type(read) is Yard and read == yard and h.same(state(read), before) and h.same(state(yard), before))
            h.fails(self, NothingUndone, read.redo)
            self.assertEqual(s.yard_text(read), text)
            # Each number of lines is the text of a yard, too.
            for k in range(1, len(lines)):
                self.assertEqual(len(s.read_yard("\n".join(lines[:k]))), k - 1)

    def test_texts_of_nothing(self):
        dice = random.Random(1172)
        found = {}
        for _ in range(60):
            lines = s.yard_text(random_yard(dice, 9)).split("\n")
            for _ in range(12):
                near = list(lines)
                k = dice.randrange(len(near))
                kind = dice.randrange(6)
                if kind == 0:
                    near.pop(k)
                elif kind == 1:
                    near.insert(k, dice.choice(lines + ["", "undo", "begin", "name more 1 1"]))
                elif kind == 2:
                    near[k], near[-1] = near[-1], near[k]
                elif kind == 3:
                    cut = dice.randrange(len(near[k]) + 1)
                    near[k] = near[k][:cut] + dice.choice(["", " ", "1", "-"]) + near[k][cut + 1:]
                elif kind == 4:
                    near[k] += dice.choice([" ", "\r", "0"])
                else:
                    near.append(dice.choice(["", lines[-1], "drop a", "take 0 0 7 1"]))
                text = "\n".join(near)
                wrong = first_wrong(text)
                if wrong is None:
                    self.assertEqual(s.yard_text(s.read_yard(text)), text)
                else:
                    self.assertTrue(h.same(h.fails(self, BadText, s.read_yard, text).line, wrong))
                found[wrong and min(wrong, 4)] = True
        self.assertEqual(len(found), 5)

    def test_wrong_inputs(self):
        for value in h.any_values():
            if type(value) is not Yard:
                h.fails(self, BadYard, s.yard_text, value)
            if value == "begin":
                continue
            told = h.fails(self, BadText, s.read_yard, value)
            self.assertTrue(h.same(told.line, 1 if type(value) is str else None))
        for text in ("", "\n", "begin ", " begin", "Begin", "begin 0,0,1", "begin 0,0,1,1,1", "begin 0,0,0,1", "begin 0 0 1 1", "begin 0,0,1,1 0,0,1,1",
                     "begin 1,0,2,1 0,0,1,1", "begin 00,0,1,1", "begin 0,0,1,1;", "begin 0,0,1,1234567890", "begin -0,0,1,1", "name a 0 0",
                     "begin " + " ".join(f"{k},0,{k + 1},1" for k in range(10, 23)), "begin  0,0,1,1", "begin ,,,"):
            self.assertEqual(h.fails(self, BadText, s.read_yard, text).line, 1)
        for text in ("begin\n", "begin\nundo", "begin\ndrop a", "begin\nput 0 0 1 1 ", "begin\n\nname a 0 0", "begin\nbegin", "begin\nfoo"):
            self.assertEqual(h.fails(self, BadText, s.read_yard, text).line, 2)
        self.assertEqual(h.fails(self, BadText, s.read_yard, "begin\nname a 0 0\nname a 0 0\nfoo").line, 3)
        self.assertEqual(h.fails(self, BadText, s.read_yard, "begin\nname a 0 0\nname b 0 0\npromise a b none none").line, 4)
        many = "begin " + " ".join(f"{k},0,{k + 1},1" for k in range(10, 22))
        self.assertEqual(len(s.read_yard(many).drawing()), 12)
        self.assertEqual(h.fails(self, BadText, s.read_yard, many + "\nput 0 0 1 1").line, 2)


if __name__ == "__main__":
    unittest.main()
