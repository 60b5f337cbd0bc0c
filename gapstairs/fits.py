"""Spots at which a body fits (point 30)."""

from gapstairs.bodies import check_body
from gapstairs.checks import check_spot, is_number_pair
from gapstairs.drawings import check_drawing, check_index


def is_spot(thing):
    """Whether any value is a pair of numbers."""
    return is_number_pair(thing)


def box_of(block, body):
    """The barred box of a block for the body."""
    return (block[0] - body[0], block[1] - body[1], block[2], block[3])


def barred_boxes(drawing, body):
    """The list of the barred boxes of all blocks."""
    return [box_of(block, body) for block in drawing.blocks]


def lies_in(spot, box):
    """Whether the spot lies in the open box."""
    return box[0] < spot[0] < box[2] and box[1] < spot[1] < box[3]


def is_free(drawing, body, spot):
    """Whether the body fits at the spot, for values that are surely such."""
    return not any([lies_in(spot, box_of(block, body)) for block in drawing.blocks])


def check_here(drawing, body):
    check_drawing(drawing)
    check_body(body)


def check_at(drawing, body, spot):
    """Refuse the first three parameters of many functions, in their order."""
    check_here(drawing, body)
    check_spot(spot)


def barred_box(drawing, body, i):
    """The barred box (left - a, low - b, right, high) of block i."""
    check_here(drawing, body)
    check_index(drawing, i)
    return box_of(drawing.blocks[i], body)


def barring(drawing, body, spot):
    """The ascending list of the indexes of the blocks in whose barred box the spot lies."""
    check_at(drawing, body, spot)
    return [i for i, block in enumerate(drawing.blocks) if lies_in(spot, box_of(block, body))]


def fits(drawing, body, spot):
    """Whether the body at the spot goes into no block."""
    check_at(drawing, body, spot)
    return is_free(drawing, body, spot)
