import random
import unittest

from gapstairs import deskwords as s
from gapstairs.drawings import Drawing
from gapstairs.errors import BadDeed, BadStairs, BadText
from gapstairs.machines import MOVES, SENSES
from gapstairs.yard import Yard
from tests import helpers as h
from tests import yards as o
from tests.test_forms import ALL
from tests.yards import Record, Stop

EXAMPLES = [
    (("put", (0, -2, 3, 4)), "put 0 -2 3 4"),
    (("take", (-999999999, -5, 0, 999999999)), "take -999999999 -5 0 999999999"),
    (("slide", (0, 0, 1, 1), "up", 3), "slide 0 0 1 1 up 3"),
    (("slide", (-1, 0, 1, 1), "left", 39), "slide -1 0 1 1 left 39"),
    (("name", "gate", (4, -1)), "name gate 4 -1"),
    (("drop", "zzzzzzzz"), "drop zzzzzzzz"),
    (("promise", "gate", "yard", (), ((2, None), (5, 3))), "promise gate yard none 2:-,5:3"),
    (("promise", "yard", "gate", ((1, 1),), ALL), "promise yard gate 1:1 -:-"),
    (("promise", "a", "b", (), ((None, 7),)), "promise a b none -:7"),
    (("promise", "put", "none", (), ()), "promise put none none none"),
    (("release", "gate", "yard"), "release gate yard"),
    (("note", "gate", (("go", "left"), ("slide", "left", "up")), ((), ("left",), ("left", "up"))),
     "note gate go.left,slide.left.up free,left,left+up"),
    (("note", "note", (), ((),)), "note note none free"),
    (("note", "a", (("go", "up"),), (("left", "down", "right", "up"), ("lost",))), "note a go.up left+down+right+up,lost"),
    (("attempt", (("drop", "a"),)), "attempt drop a"),
    (("attempt", (("put", (0, 0, 1, 1)), ("name", "a", (0, 0)), ("note", "a", (), ((),)))), "attempt put 0 0 1 1 ; name a 0 0 ; note a none free"),
]


def is_written(thing):
    return h.number(thing) and -999999999 <= thing <= 999999999


def is_deed(thing, single=False):
    """The words of the point, for any value."""
    if type(thing) is not tuple or not thing or type(thing[0]) is not str:
        return False
    head = thing[0]
    if head == "attempt" and not single:
        return len(thing) == 2 and type(thing[1]) is tuple and len(thing[1]) > 0 and all(is_deed(part, True) for part in thing[1])
    if o.LENGTHS.get(head) != len(thing):
        return False
    if head in ("put", "take"):
        return h.block(thing[1])
    if head == "slide":
        return h.block(thing[1]) and h.side(thing[2]) and h.number(thing[3]) and 1 <= thing[3] <= 39
    if not o.is_word(thing[1]):
        return False
    if head == "name":
        return h.pair_of_numbers(thing[2])
    if head in ("release", "promise"):
        if not o.is_word(thing[2]) or thing[1] == thing[2]:
            return False
        return head == "release" or h.stairs(thing[3]) and h.stairs(thing[4]) and all(h.stairs_has(
            thing[4], tuple(item or 9999 for item in corner)) for corner in thing[3])
    if head == "note":
        return type(thing[2]) is tuple and type(thing[3]) is tuple and o.is_record(((0, 0),) + thing[2:])
    return True


def text_of(stairs):
    return ",".join(":".join("-" if item is None else str(item) for item in corner) for corner in stairs) or "none"


def random_stairs(dice):
    if dice.random() < 0.3:
        return dice.choice([(), ALL, ((999999999, 999999999),), ((1, None), (999999999, 1))])
    return h.random_stairs(dice, 12)


def random_right_deed(dice, single=False):
    """A deed that is right by itself, whatever stands."""
    kind = dice.choice(list(o.LENGTHS) + ([] if single else ["attempt"]))
    number = lambda: dice.choice([0, 1, -1, 10, -10, 999999999, -999999999, dice.randint(-99, 99)])
    one, other = dice.sample(o.WORDS, 2)
    if kind in ("put", "take", "slide"):
        left, low = number(), number()
        block = (left - (left == 999999999), low - (low == 999999999), 999999999, 999999999)
        return (kind, block) if kind != "slide" else (kind, block, dice.choice(["left", "down", "right", "up"]), dice.randint(1, 39))
    if kind == "name":
        return (kind, one, (number(), number()))
    if kind == "drop":
        return (kind, one)
    if kind == "release":
        return (kind, one, other)
    if kind == "promise":
        stairs = random_stairs(dice)
        return (kind, one, other) + dice.choice([((), stairs), (stairs, ALL), (stairs, stairs), (stairs[:1], stairs)])
    if kind == "note":
        row = tuple(dice.choice(MOVES) for _ in range(dice.randint(0, 3)))
        return (kind, one, row, tuple(tuple(one for one in SENSES if dice.random() < 0.3) for _ in range(len(row) + 1)))
    return (kind, tuple(random_right_deed(dice, True) for _ in range(dice.randint(1, 3))))


class Words(unittest.TestCase):
    def test_staircases(self):
        dice = random.Random(1151)
        known = {}
        for stairs in [(), ALL, ((2, None), (5, 3))] + h.all_stairs(3) + [random_stairs(dice) for _ in range(200)]:
            text = h.ask(self, s.stairs_text, ["stairs"], [stairs])
            self.assertEqual(text, text_of(stairs))
            self.assertTrue(h.same(h.ask(self, s.read_stairs, ["text"], [text]), stairs))
            self.assertEqual(known.setdefault(text, stairs), stairs)
        self.assertEqual([s.stairs_text(stairs) for stairs in ((), ALL, ((2, None), (5, 3)))], ["none", "-:-", "2:-,5:3"])
        for text in ("", "2", "2:", ":3", "2:3:4", "2:3,", ",2:3", "2:3,2:4", "2:3,3:3", "5:3,2:-", "-:3,2:5", "02:3", "+2:3", "0:1", "-1:2",
                     "1:0", " 2:3", "2:3 ", "2: 3", "2:3, 4:1", "2:3\n", "None", "NONE", "none,1:1", "1:1,none", "--:1", "-0:1", "1234567890:1",
                     "2.5:1", "1_0:1", "\u0661:1", "\u00b2:1", "a:b", "2;3", "2:3;4:1", "2:-,5:-", "none ", "[]", "()", "-:-,-:-"):
            told = h.fails(self, BadText, s.read_stairs, text)
            self.assertIsNone(told.line)
        for value in h.any_values():
            if type(value) is not str:
                self.assertIsNone(h.fails(self, BadText, s.read_stairs, value).line)
        h.refuse(self, s.stairs_text, [("stairs", BadStairs, h.stairs)], [((2, 3),)])

    def test_deeds_by_hand(self):
        for deed, line in EXAMPLES:
            self.assertEqual(h.ask(self, s.deed_text, ["deed"], [deed]), line)
            self.assertTrue(h.same(h.ask(self, s.read_deed, ["line"], [line]), deed))

    def test_deeds_and_lines_belong_to_one_another(self):
        dice = random.Random(1152)
        known = {}
        for _ in range(1500):
            deed = random_right_deed(dice)
            self.assertTrue(is_deed(deed))
            line = s.deed_text(deed)
            self.assertTrue(type(line) is str and h.same(s.read_deed(line), deed))
            self.assertEqual(known.setdefault(line, deed), deed)
            self.near_lines(dice, line)
        self.assertGreater(len(known), 900)

    def near_lines(self, dice, line):
        """Lines a little unlike: they are read only if they are the text of what is read."""
        k = dice.randrange(len(line) + 1)
        signs = " 0123456789-+.,:;abgoup\n"
        for near in (line[:k] + line[k + 1:], line[:k] + dice.choice(signs) + line[k:], line[:k] + dice.choice(signs) + line[k + 1:],
                     line + " ", " " + line, line[:k], line.replace(" ", "  ", 1), line + " ; " + line, "attempt " + line):
            try:
                deed = s.read_deed(near)
            except BadText as told:
                self.assertIsNone(told.line)
                continue
            self.assertTrue(is_deed(deed))
            self.assertEqual(s.deed_text(deed), near)

    def test_lines_of_nothing(self):
        for line in ("", " ", "put", "put 0 0 1", "put 0 0 1 1 1", "put 0 0 0 1", "put 1 1 0 0", "put 00 0 1 1", "put +0 0 1 1", "put -0 0 1 1",
                     "put 0 0 1 1.0", "put 0,0,1,1", "Put 0 0 1 1", "put  0 0 1 1", "put\t0 0 1 1", "put 0 0 1 1234567890", "put 0 0 1 -",
                     "slide 0 0 1 1 up", "slide 0 0 1 1 up 0", "slide 0 0 1 1 up 40", "slide 0 0 1 1 3 up", "slide 0 0 1 1 north 3", "slide 0 0 1 1 up 3 3",
                     "name gate 4", "name gate 4 -1 0", "name Gate 4 1", "name ninechars 4 1", "name  4 1", "name gate four 1", "drop", "drop gate yard",
                     "drop g8", "release gate", "release gate gate", "release gate yard pit", "promise gate gate none none", "promise gate yard none",
                     "promise gate yard -:- none", "promise gate yard 2:2 1:1", "promise gate yard none none none", "note gate go.left free",
                     "note gate none none", "note gate go.left free,left,up", "note gate go.left free,", "note gate go free,free", "note gate slide.left free,free",
                     "note gate slide.left.right free,free", "note gate go.left free,up+left", "note gate go.left free,left+left", "note gate go.left",
                     "note gate none free free", "note gate  free", "note gate go.left, free,free", "note gate none lost+free", "undo", "redo", "stairs a b",
                     "attempt", "attempt ", "attempt  drop a", "attempt drop a;drop b", "attempt drop a ; ", "attempt ; drop a", "attempt drop a ;  drop b",
                     "attempt attempt drop a", "attempt drop a ; attempt drop b", "attempt drop a ; undo", "drop a ; drop b", "attempt " * 5000, "drop a\n",
                     "begin", "log"):
            self.assertIsNone(h.fails(self, BadText, s.read_deed, line).line)
        for value in h.any_values() + [deed for deed, _ in EXAMPLES]:
            if type(value) is not str:
                self.assertIsNone(h.fails(self, BadText, s.read_deed, value).line)

    def test_wrong_deeds(self):
        dice = random.Random(1153)
        values = h.any_values()
        for value in values + [[deed] for deed, _ in EXAMPLES] + [list(deed) for deed, _ in EXAMPLES] + [line for _, line in EXAMPLES]:
            h.fails(self, BadDeed, s.deed_text, value)
        count = 0
        for deed, _ in EXAMPLES:
            near = [deed + (0,), deed[:-1], ("x",) + deed[1:], (deed[0].upper(),) + deed[1:], (deed[0].encode(),) + deed[1:]]
            for k in range(len(deed)):
                near += [deed[:k] + (value,) + deed[k + 1:] for value in values]
            for thing in near:
                if is_deed(thing):
                    s.deed_text(thing)
                else:
                    h.fails(self, BadDeed, s.deed_text, thing)
                    count += 1
        self.assertGreater(count, 1000)
        for thing in (("put", [0, 0, 1, 1]), ("put", (0, 0, True, 1)), ("slide", (0, 0, 1, 1), "up", True), ("note", "a", [], ((),)),
                      ("note", "a", (), [()]), ("note", "a", (["go", "up"],), ((), ())), ("note", "a", (), ([],)), ("note", "a", (), ((), ())),
                      ("attempt", [("drop", "a")]), ("attempt", ()), ("attempt", (("attempt", (("drop", "a"),)),)), ("attempt", (["drop", "a"],)),
                      ("promise", "a", "a", (), ()), ("promise", "a", "b", ALL, ()), ("promise", "a", "b", [], ()), ("release", "a", "a"),
                      ("undo",), ("redo",), (), ("begin", (0, 0, 1, 1)), ("put", (0, 0, 1, 10 ** 9)), ("take", (-10 ** 9, 0, 1, 1)),
                      ("slide", (-10 ** 9, 0, 1, 1), "up", 1), ("name", "a", (10 ** 9, 0)), ("name", "a", (0, -10 ** 9)), ("name", "a", (0, 10 ** 9)),
                      ("name", "a", (-10 ** 9, 0)), ("promise", "a", "b", (), ((10 ** 9, 1),)), ("promise", "a", "b", ((1, 10 ** 9),), ALL)):
            h.fails(self, BadDeed, s.deed_text, thing)
        self.assertTrue(dice)

    def test_each_deed_of_a_log_has_a_line(self):
        dice = random.Random(1154)
        for _ in range(30):
            yard, record = Yard(Drawing(o.PEN[:3])), Record(Drawing(o.PEN[:3]))
            for _ in range(15):
                deed = o.random_deed(dice, record)
                later = record.copy()
                try:
                    later.do(deed)
                except Stop:
                    continue
                record = later
                getattr(yard, deed[0])(*deed[1:])
            for deed in yard.log():
                self.assertTrue(is_deed(deed) and h.same(s.read_deed(s.deed_text(deed)), deed))


if __name__ == "__main__":
    unittest.main()
