"""A record of a yard that the tests keep themselves, and random deeds."""

from gapstairs import errors as e
from gapstairs import records
from gapstairs.drawings import Drawing
from gapstairs.machines import MOVES
from gapstairs.passages import stairs_between
from gapstairs.slides import displaced, slide_calendar, stairs_always, stairs_once
from gapstairs.stairs import inside
from tests import helpers as h
from tests.test_forms import ALL
from tests.test_records import is_record

LENGTHS = {"name": 3, "drop": 2, "put": 2, "take": 2, "slide": 4, "promise": 5, "release": 3, "note": 4}
WORDS = ["a", "b", "gate", "yard", "zzzzzzzz", "pit", "c", "d", "e", "f", "g", "h", "i", "j", "k"]
PEN = h.pen(0, 0, 7, 7)


def is_word(thing):
    return type(thing) is str and 1 <= len(thing) <= 8 and all(sign in "abcdefghijklmnopqrstuvwxyz" for sign in thing)


class Stop(Exception):
    """What a deed has to raise: an error, and what it tells."""

    def __init__(self, error, **told):
        super().__init__()
        self.error, self.told = error, told


def refuse(holds, error, **told):
    if holds:
        raise Stop(error, **told)


class Record:
    """What stands in a yard, by the words of the point."""

    def __init__(self, drawing):
        self.past, self.spots, self.sworn, self.felt = [drawing], {}, {}, []

    def copy(self):
        other = Record(None)
        other.past, other.spots, other.sworn, other.felt = list(self.past), dict(self.spots), dict(self.sworn), list(self.felt)
        return other

    def word(self, word):
        refuse(not is_word(word), e.BadWord)
        refuse(word not in self.spots, e.NoName)

    def stairs(self, one, other):
        return stairs_between(self.past[-1], self.spots[one], self.spots[other])

    def sworn_is_kept(self, told=None):
        """Look at all bodies up to a great one, and at each promise; told gives what moves."""
        for one, other in sorted(self.sworn):
            low, high = self.sworn[(one, other)]
            least, most = told(self.spots[one], self.spots[other]) if told else [self.stairs(one, other)] * 2
            for body in h.bodies_to(24):
                wrong = h.stairs_has(low, body) and not h.stairs_has(least, body)
                wrong = wrong or (not h.stairs_has(high, body) and h.stairs_has(most, body))
                refuse(wrong, e.Broken, one=one, other=other, body=body)

    def do(self, deed):
        getattr(self, "do_" + deed[0])(*deed[1:])

    def do_name(self, word, spot):
        refuse(not is_word(word), e.BadWord)
        refuse(not h.pair_of_numbers(spot), e.BadSpot)
        refuse(word in self.spots, e.Named)
        refuse(len(self.spots) == 12, e.TooMany, most=12)
        self.spots[word] = spot

    def do_drop(self, word):
        self.word(word)
        refuse(any(word in pair for pair in self.sworn), e.Promised)
        del self.spots[word]

    def do_put(self, block):
        blocks = list(self.past[-1].blocks)
        refuse(not h.block(block) or block in blocks, e.BadBlock)
        refuse(len(blocks) == 12, e.TooMany, most=12)
        self.past.append(Drawing(blocks + [block]))
        self.sworn_is_kept()

    def do_take(self, block):
        blocks = list(self.past[-1].blocks)
        refuse(not h.block(block) or block not in blocks, e.BadBlock)
        blocks.remove(block)
        self.past.append(Drawing(blocks))
        self.sworn_is_kept()

    def do_slide(self, block, side, by):
        now = self.past[-1]
        refuse(not h.block(block) or block not in now.blocks, e.BadBlock)
        refuse(not h.side(side), e.BadSide)
        refuse(not h.number(by) or not 1 <= by <= 39, e.BadBy)
        i = now.blocks.index(block)
        try:
            displaced(now, i, side, by)
        except e.BadBy:
            raise Stop(e.BadBy) from None
        self.sworn_is_kept(lambda one, other: (stairs_always(now, i, side, by, one, other), stairs_once(now, i, side, by, one, other)))
        self.past += slide_calendar(now, i, side, by)[1:]

    def do_promise(self, one, other, low, high):
        self.word(one)
        self.word(other)
        refuse(one == other, e.BadOther)
        refuse(not h.stairs(low), e.BadLow)
        refuse(not h.stairs(high) or not inside(low, high), e.BadHigh)
        pair = (min(one, other), max(one, other))
        refuse(pair not in self.sworn and len(self.sworn) == 6, e.TooMany, most=6)
        self.sworn[pair] = (low, high)
        self.sworn_is_kept()

    def do_release(self, one, other):
        self.word(one)
        self.word(other)
        pair = (min(one, other), max(one, other))
        refuse(pair not in self.sworn, e.NoPromise)
        del self.sworn[pair]

    def do_note(self, word, row, felt):
        self.word(word)
        spot = self.spots[word]
        refuse(type(row) not in (list, tuple) or not is_record((spot, row, [()] * (len(row) + 1))), e.BadRow)
        refuse(not is_record((spot, row, felt)), e.BadFelt)
        refuse(len(self.felt) == 12, e.TooMany, most=12)
        self.felt.append((self.past[-1], (spot, tuple(row), tuple(felt))))
        refuse(records.agreeing(self.felt) == [], e.NoBody)

    def do_attempt(self, deeds):
        refuse(type(deeds) not in (list, tuple) or not deeds, e.BadDeeds)
        refuse(not all(type(deed) is tuple and deed and type(deed[0]) is str and LENGTHS.get(deed[0]) == len(deed)
                       for deed in deeds), e.BadDeeds)
        for at, deed in enumerate(deeds):
            try:
                self.do(deed)
            except Stop as why:
                raise Stop(e.Failed, at=at, cause=why.error) from None


def logged(deed):
    """A deed as tuples at every depth."""
    return tuple(logged(item) if type(item) in (list, tuple) else item for item in deed)


def random_stairs_near(dice, record, one, other):
    """Low and high for two words, for the most part such as are kept."""
    now = record.stairs(one, other) if one in record.spots and other in record.spots else ()
    kind = dice.random()
    if kind < 0.3:
        return now, now
    if kind < 0.5:
        return (), now
    if kind < 0.7:
        return now[:1], ALL
    if kind < 0.8:
        return dice.choice([((), ALL), (ALL, ()), (((2, 2),), ((1, 3),))])
    return dice.choice([(), ((1, 1),), h.random_stairs(dice, 4)]), dice.choice([ALL, h.random_stairs(dice, 4)])


def random_block(dice, record):
    blocks = record.past[-1].blocks
    if blocks and dice.random() < 0.7:
        return dice.choice(blocks)
    return dice.choice(PEN + h.random_blocks(dice, 2, 4, 4))


def random_note(dice, record):
    word = dice.choice(WORDS[:6])
    row = [dice.choice(MOVES) for _ in range(dice.randint(0, 2))]
    try:
        told = records.record(record.past[-1], (2, 1), record.spots[word], row)
        return ("note", word, row, list(told[2]))
    except (KeyError, e.NotFree):
        return ("note", word, row, [dice.choice([(), ("left",), ("down", "up")])] * dice.randint(0, 3))


def random_deed(dice, record, depth=0):
    """A deed that can be done, for the most part."""
    kind = dice.choice("name name drop put put take take slide slide promise promise release note note attempt".split())
    one, other = dice.choice(WORDS[:6]), dice.choice(WORDS[:6])
    if kind == "attempt" and depth == 0:
        later = record.copy()
        deeds = []
        for _ in range(dice.randint(1, 3)):
            deed = random_deed(dice, later, 1)
            deeds.append(deed)
            try:
                later.do(deed)
            except Stop:
                break
        return ("attempt", dice.choice([deeds, tuple(deeds)]))
    if kind == "put":
        return ("put", dice.choice(PEN + h.random_blocks(dice, 3, 4, 4)))
    if kind == "take":
        return ("take", random_block(dice, record))
    if kind == "slide":
        return ("slide", random_block(dice, record), dice.choice(["left", "down", "right", "up"]), dice.choice([1, 1, 2, 3, 40]))
    if kind == "promise":
        return ("promise", one, other) + random_stairs_near(dice, record, one, other)
    if kind == "release" and dice.random() < 0.5:
        return ("release", one, other)
    if kind == "drop" and dice.random() < 0.6:
        return ("drop", one)
    if kind == "note":
        return random_note(dice, record)
    return ("name", one, (dice.randint(-3, 9), dice.randint(-3, 9)))
