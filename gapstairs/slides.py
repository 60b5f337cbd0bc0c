"""Blocks that slide, and the bodies that live with it at each moment (point 111)."""

from gapstairs.checks import check_spot, is_number
from gapstairs.drawings import Drawing, check_drawing, check_index
from gapstairs.errors import BadBy
from gapstairs.passages import passage_of
from gapstairs.seasons import stairs_over
from gapstairs.stairs import ALL, both, either, stairs_of
from gapstairs.touching import axis_of, check_side, sign_of

MOST_BY = 39


def block_moved(block, side, by):
    """The block, by further on the side."""
    axis = axis_of(side)
    far = sign_of(side) * by
    return tuple([item + far if k % 2 == axis else item for k, item in enumerate(block)])


def others_of(drawing, i):
    """The list of the other blocks."""
    return [block for k, block in enumerate(drawing.blocks) if k != i]


def drawing_at(drawing, i, side, moment):
    """The Drawing at a whole moment; where the block is equal to another one, this stands there once."""
    return Drawing(sorted(set(others_of(drawing, i) + [block_moved(drawing.blocks[i], side, moment)])))


def doubled(block):
    return tuple([2 * item for item in block])


def drawing_halfway(drawing, i, side, moment):
    """The Drawing half a unit of time behind a whole moment, all numbers times 2."""
    moving = block_moved(doubled(drawing.blocks[i]), side, 2 * moment + 1)
    return Drawing([doubled(block) for block in others_of(drawing, i)] + [moving])


def halved(stairs):
    """The staircase of the bodies the doubles of which are held."""
    corners = [tuple([item if item is None else item // 2 for item in corner]) for corner in stairs]
    return stairs_of([corner for corner in corners if 0 not in corner])


def is_slide_number(by):
    return is_number(by) and 1 <= by <= MOST_BY


def calendar_of(drawing, i, side, by):
    """slide_calendar, for values that are surely such."""
    return [drawing_at(drawing, i, side, moment) for moment in range(by + 1)]


def always_of(drawing, i, side, by, one, other):
    """stairs_always, for values that are surely such."""
    found = ALL
    for moment in range(by):
        found = both(found, passage_of(drawing_halfway(drawing, i, side, moment), doubled(one), doubled(other)))
    return halved(found)


def once_of(drawing, i, side, by, one, other):
    """stairs_once, for values that are surely such."""
    found = ()
    for there in calendar_of(drawing, i, side, by):
        found = either(found, passage_of(there, one, other))
    return found


def check_slide(drawing, i, side, by):
    """Refuse the first four parameters of all functions, in their order."""
    check_drawing(drawing)
    check_index(drawing, i)
    check_side(side)
    if not is_slide_number(by) or block_moved(drawing.blocks[i], side, by) in others_of(drawing, i):
        raise BadBy("by is a number from 1 to 39, and no other block stands where it leads")


def check_riding(drawing, i, side, by, one, other):
    check_slide(drawing, i, side, by)
    check_spot(one)
    check_spot(other)


def displaced(drawing, i, side, by):
    """The Drawing at the end."""
    check_slide(drawing, i, side, by)
    return drawing_at(drawing, i, side, by)


def slide_calendar(drawing, i, side, by):
    """The list of the Drawings at the whole moments."""
    check_slide(drawing, i, side, by)
    return calendar_of(drawing, i, side, by)


def stairs_riding(drawing, i, side, by, one, other):
    """The staircase of all bodies that ride it out."""
    check_riding(drawing, i, side, by, one, other)
    return stairs_over(calendar_of(drawing, i, side, by), one, other)


def stairs_always(drawing, i, side, by, one, other):
    """The staircase of all bodies for which the spots share a chamber at every moment."""
    check_riding(drawing, i, side, by, one, other)
    return always_of(drawing, i, side, by, one, other)


def stairs_once(drawing, i, side, by, one, other):
    """The staircase of all bodies for which the spots share a chamber at some moment."""
    check_riding(drawing, i, side, by, one, other)
    return once_of(drawing, i, side, by, one, other)
