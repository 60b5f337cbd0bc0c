"""What stands in a yard at one moment, and what each deed makes of it (point 114)."""

from gapstairs.checks import check_spot, is_list
from gapstairs.drawings import MOST_BLOCKS, Drawing, is_block
from gapstairs.errors import (
    BadBlock, BadBy, BadDeeds, BadFelt, BadHigh, BadLow, BadOther, BadWord, Broken, Failed, GapError, Named, NoBody,
    NoName, NoPromise, Promised, TooMany,
)
from gapstairs.machines import check_row
from gapstairs.passages import passage_of
from gapstairs.rebuilding import MOST_PROMISES, breach_of
from gapstairs.records import MOST_NOTES, is_felt, patches_of
from gapstairs.slides import always_of, block_moved, calendar_of, is_slide_number, once_of
from gapstairs.stairs import is_stairs, within
from gapstairs.touching import check_side

MOST_WORDS = 12
MOST_LETTERS = 8
LETTERS = "abcdefghijklmnopqrstuvwxyz"
# How many items a deed of the log has.
LENGTHS = {"name": 3, "drop": 2, "put": 2, "take": 2, "slide": 4, "promise": 5, "release": 3, "note": 4, "attempt": 2}


class Scene:
    """What stands in a yard; it is never changed, each deed makes a new one."""

    def __init__(self, past, spots, sworn, felt):
        self.past = past
        self.spots = spots
        self.sworn = sworn
        self.felt = felt


def drawing_now(scene):
    return scene.past[-1]


def with_past(scene, past):
    """The Scene with other Drawings from the beginning on."""
    return Scene(past, scene.spots, scene.sworn, scene.felt)


def with_spots(scene, spots):
    return Scene(scene.past, spots, scene.sworn, scene.felt)


def with_sworn(scene, sworn):
    return Scene(scene.past, scene.spots, sworn, scene.felt)


def is_word(thing):
    """Whether any value is a word."""
    if not isinstance(thing, str) or not 1 <= len(thing) <= MOST_LETTERS:
        return False
    return all([letter in LETTERS for letter in thing])


def check_word(word):
    if not is_word(word):
        raise BadWord("a word is a string of one to eight letters from a to z")


def check_standing(scene, word):
    """Refuse what is no word that stands."""
    check_word(word)
    if word not in scene.spots:
        raise NoName("the word does not stand")


def check_words(scene, one, other):
    check_standing(scene, one)
    check_standing(scene, other)


def pair_of_words(one, other):
    return (one, other) if one < other else (other, one)


def stairs_at(scene, one, other):
    """The staircase of the bodies that get between the spots of two words."""
    return passage_of(drawing_now(scene), scene.spots[one], scene.spots[other])


def check_sworn(scene):
    """Refuse a Scene that does not keep its promises, in the order of their words."""
    for pair in sorted(list(scene.sworn)):
        low, high = scene.sworn[pair]
        stairs = stairs_at(scene, pair[0], pair[1])
        check_breach(pair, breach_of(low, high, stairs, stairs))


def check_breach(pair, found):
    if found is not None:
        raise Broken(pair[0], pair[1], found[0])


def after_name(scene, word, spot):
    """The Scene in which the word names the spot."""
    check_word(word)
    check_spot(spot)
    if word in scene.spots:
        raise Named("the word stands")
    if len(scene.spots) == MOST_WORDS:
        raise TooMany(MOST_WORDS)
    spots = {other: scene.spots[other] for other in scene.spots}
    spots[word] = spot
    return with_spots(scene, spots)


def after_drop(scene, word):
    """The Scene without the word."""
    check_standing(scene, word)
    if any([word in pair for pair in scene.sworn]):
        raise Promised("a promise has the word")
    return with_spots(scene, {other: scene.spots[other] for other in scene.spots if other != word})


def check_block_here(scene, block):
    if not is_block(block) or block not in drawing_now(scene).blocks:
        raise BadBlock("the block does not stand")


def after_put(scene, block):
    """The Scene with this block, too."""
    blocks = list(drawing_now(scene).blocks)
    if not is_block(block) or block in blocks:
        raise BadBlock("no block, or one that stands")
    if len(blocks) == MOST_BLOCKS:
        raise TooMany(MOST_BLOCKS)
    later = with_past(scene, scene.past + [Drawing(blocks + [block])])
    check_sworn(later)
    return later


def after_take(scene, block):
    """The Scene without the block."""
    check_block_here(scene, block)
    now = Drawing([other for other in drawing_now(scene).blocks if other != block])
    later = with_past(scene, scene.past + [now])
    check_sworn(later)
    return later


def after_slide(scene, block, side, by):
    """The Scene in which the block has slid."""
    check_block_here(scene, block)
    check_side(side)
    drawing = drawing_now(scene)
    if not is_slide_number(by) or block_moved(block, side, by) in drawing.blocks:
        raise BadBy("by is a number from 1 to 39, and no other block stands where it leads")
    i = drawing.blocks.index(block)
    for pair in sorted(list(scene.sworn)):
        low, high = scene.sworn[pair]
        one, other = scene.spots[pair[0]], scene.spots[pair[1]]
        least = always_of(drawing, i, side, by, one, other)
        check_breach(pair, breach_of(low, high, least, once_of(drawing, i, side, by, one, other)))
    return with_past(scene, scene.past + calendar_of(drawing, i, side, by)[1:])


def after_promise(scene, one, other, low, high):
    """The Scene with this promise for the two words."""
    check_words(scene, one, other)
    if one == other:
        raise BadOther("a promise is for two words")
    if not is_stairs(low):
        raise BadLow("low is a staircase")
    if not is_stairs(high) or not within(low, high):
        raise BadHigh("high is a staircase that low is inside of")
    pair = pair_of_words(one, other)
    sworn = {standing: scene.sworn[standing] for standing in scene.sworn if standing != pair}
    if len(sworn) == MOST_PROMISES:
        raise TooMany(MOST_PROMISES)
    sworn[pair] = (low, high)
    later = with_sworn(scene, sworn)
    check_sworn(later)
    return later


def after_release(scene, one, other):
    """The Scene without the promise for the two words."""
    check_words(scene, one, other)
    pair = pair_of_words(one, other)
    if pair not in scene.sworn:
        raise NoPromise("no promise stands for the words")
    return with_sworn(scene, {standing: scene.sworn[standing] for standing in scene.sworn if standing != pair})


def after_note(scene, word, row, felt):
    """The Scene with a record of what was felt from the spot of the word on."""
    check_standing(scene, word)
    check_row(row)
    if not is_felt(row, felt):
        raise BadFelt("felt is a list of senses, one item more than the row has")
    if len(scene.felt) == MOST_NOTES:
        raise TooMany(MOST_NOTES)
    notes = scene.felt + [(drawing_now(scene), (scene.spots[word], tuple(row), tuple(felt)))]
    if patches_of(notes) == []:
        raise NoBody("no body agrees with all notes")
    return Scene(scene.past, scene.spots, scene.sworn, notes)


def is_deed_form(thing):
    """Whether any value is a tuple with the first item and the length of a deed of the log."""
    if not isinstance(thing, tuple) or len(thing) == 0 or not isinstance(thing[0], str):
        return False
    return len(thing) == LENGTHS.get(thing[0], 0)


def after_attempt(scene, deeds):
    """The Scene in which all deeds are done, one after another."""
    if not is_list(deeds) or len(deeds) == 0:
        raise BadDeeds("deeds are a list of one or more deeds other than attempts")
    if not all([is_deed_form(deed) and deed[0] != "attempt" for deed in deeds]):
        raise BadDeeds("deeds are a list of one or more deeds other than attempts")
    here = scene
    for at, deed in enumerate(deeds):
        try:
            here = after_deed(here, deed)
        except GapError as why:
            raise Failed(at) from why
    return here


def after_blocks(scene, deed):
    """The Scene behind a deed with a block."""
    if deed[0] == "put":
        return after_put(scene, deed[1])
    if deed[0] == "take":
        return after_take(scene, deed[1])
    return after_slide(scene, deed[1], deed[2], deed[3])


def after_words(scene, deed):
    """The Scene behind a deed with words."""
    if deed[0] == "name":
        return after_name(scene, deed[1], deed[2])
    if deed[0] == "drop":
        return after_drop(scene, deed[1])
    if deed[0] == "promise":
        return after_promise(scene, deed[1], deed[2], deed[3], deed[4])
    if deed[0] == "release":
        return after_release(scene, deed[1], deed[2])
    return after_note(scene, deed[1], deed[2], deed[3])


def after_deed(scene, deed):
    """The Scene behind a deed of the form of the log; an error if it cannot be done."""
    if deed[0] == "attempt":
        return after_attempt(scene, deed[1])
    return after_blocks(scene, deed) if deed[0] in ("put", "take", "slide") else after_words(scene, deed)


def as_logged(deed):
    """The deed as tuples at every depth."""
    if deed[0] == "note":
        return (deed[0], deed[1], tuple(deed[2]), tuple(deed[3]))
    if deed[0] == "attempt":
        return (deed[0], tuple([as_logged(part) for part in deed[1]]))
    return deed


def told_promises(scene):
    """The list of the promises, in the order of their words, with spots."""
    return [
        (scene.spots[pair[0]], scene.spots[pair[1]]) + scene.sworn[pair] for pair in sorted(list(scene.sworn))
    ]
