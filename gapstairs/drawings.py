"""Drawings of solid blocks (point 20)."""

from gapstairs.checks import check_by, is_index, is_list, is_lot, is_number
from gapstairs.errors import BadBlock, BadBlocks, BadDrawing, BadIndex, BadLot, BadPair, BadTimes, TooMany

MOST_BLOCKS = 12


def is_block(thing):
    """Whether any value is a block (left, low, right, high)."""
    if not isinstance(thing, tuple) or len(thing) != 4 or not all([is_number(item) for item in thing]):
        return False
    return thing[0] < thing[2] and thing[1] < thing[3]


def are_blocks(thing):
    """Whether it is a list of at most twelve different blocks."""
    if not is_list(thing) or len(thing) > MOST_BLOCKS or not all([is_block(block) for block in thing]):
        return False
    return len(set(thing)) == len(thing)


class Drawing:
    """At most twelve different blocks, ascending."""

    def __init__(self, blocks):
        if not are_blocks(blocks):
            raise BadBlocks("blocks are a list of at most twelve different blocks")
        self.blocks = tuple(sorted(blocks))

    def __eq__(self, other):
        return isinstance(other, Drawing) and self.blocks == other.blocks

    def __len__(self):
        return len(self.blocks)

    def __contains__(self, x):
        return is_block(x) and x in self.blocks


def check_drawing(drawing):
    if not isinstance(drawing, Drawing):
        raise BadDrawing("drawing is a Drawing")


def check_index(drawing, i):
    if not is_index(i, len(drawing.blocks)):
        raise BadIndex("no index of a block of the drawing")


def check_pair(drawing, i, j):
    """Refuse what are no two different indexes of blocks."""
    check_index(drawing, i)
    check_index(drawing, j)
    if i == j:
        raise BadPair("a block makes no pair with itself")


def put(drawing, block):
    """The Drawing with this block, too."""
    check_drawing(drawing)
    if not is_block(block) or block in drawing.blocks:
        raise BadBlock("no block, or one that is in the drawing")
    if len(drawing.blocks) == MOST_BLOCKS:
        raise TooMany(MOST_BLOCKS)
    return Drawing(list(drawing.blocks) + [block])


def taken(drawing, lot):
    """The Drawing without the blocks of the lot."""
    check_drawing(drawing)
    if not is_lot(lot, len(drawing.blocks)):
        raise BadLot("a lot is an ascending tuple of different indexes")
    return Drawing([block for i, block in enumerate(drawing.blocks) if i not in lot])


def shifted(drawing, by):
    """The Drawing with all blocks moved by the pair."""
    check_drawing(drawing)
    check_by(by)
    return Drawing([
        (left + by[0], low + by[1], right + by[0], high + by[1])
        for left, low, right, high in drawing.blocks
    ])


def scaled(drawing, times):
    """The Drawing with all numbers multiplied."""
    check_drawing(drawing)
    if not is_number(times) or times < 1:
        raise BadTimes("times is a number from 1 on")
    return Drawing([tuple([times * item for item in block]) for block in drawing.blocks])


def flipped_drawing(drawing):
    """The Drawing with x and y exchanged."""
    check_drawing(drawing)
    return Drawing([(low, left, high, right) for left, low, right, high in drawing.blocks])
