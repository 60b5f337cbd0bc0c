"""A block or a ring for each notch of a passage (point 54)."""

from gapstairs.chambers import check_two
from gapstairs.checks import has_just_keys, is_index
from gapstairs.climbs import are_climbs
from gapstairs.fits import box_of, is_free, lies_in
from gapstairs.passages import check_passage, passage_of
from gapstairs.rings import find_parting, is_parting_of
from gapstairs.stairs import is_stairs, notches_of


def is_block_bar(drawing, body, ends, thing):
    """Whether it is a triple ("block", k, i), block i barring the k-th of the ends."""
    if len(thing) != 3 or thing[0] != "block":
        return False
    if not is_index(thing[1], 2) or not is_index(thing[2], len(drawing.blocks)):
        return False
    return lies_in(ends[thing[1]], box_of(drawing.blocks[thing[2]], body))


def is_bar_of(drawing, body, one, other, thing):
    """Whether any value is a bar, the other parameters surely being such."""
    if not isinstance(thing, tuple):
        return False
    if is_block_bar(drawing, body, (one, other), thing):
        return True
    if len(thing) != 2 or thing[0] != "ring":
        return False
    if not is_free(drawing, body, one) or not is_free(drawing, body, other):
        return False
    return is_parting_of(drawing, body, one, other, thing[1])


def block_bar(drawing, body, one, other):
    """The bar of the first block of the first spot where the body does not fit; None if it fits at both."""
    for k, spot in enumerate((one, other)):
        for i, block in enumerate(drawing.blocks):
            if lies_in(spot, box_of(block, body)):
                return ("block", k, i)
    return None


def bar_for(drawing, body, one, other):
    """A bar for a body that surely does not get from one to other."""
    first = block_bar(drawing, body, one, other)
    return ("ring", find_parting(drawing, body, one, other)) if first is None else first


def are_bars_of(drawing, one, other, stairs, thing):
    """Whether it is a dict from just the notches of stairs to bars for them."""
    wanted = notches_of(stairs)
    if not has_just_keys(thing, wanted):
        return False
    return all([is_bar_of(drawing, notch, one, other, thing[notch]) for notch in wanted])


def is_bar(drawing, body, one, other, thing):
    """Whether any value is a bar for the two spots and the body."""
    check_two(drawing, body, one, other)
    return is_bar_of(drawing, body, one, other, thing)


def bar_table(drawing, one, other):
    """A bar for each notch of stairs_between."""
    check_passage(drawing, one, other)
    return {
        notch: bar_for(drawing, notch, one, other)
        for notch in notches_of(passage_of(drawing, one, other))
    }


def is_bar_table(drawing, one, other, thing):
    """Whether any value is a bar table for the two spots."""
    check_passage(drawing, one, other)
    return are_bars_of(drawing, one, other, passage_of(drawing, one, other), thing)


def are_both(drawing, one, other, stairs, climbs, bars):
    """Whether the climbs show that all of stairs gets from one to other, and the bars that nothing else does."""
    check_passage(drawing, one, other)
    if not is_stairs(stairs):
        return False
    return are_climbs(drawing, one, other, stairs, climbs) and are_bars_of(drawing, one, other, stairs, bars)
