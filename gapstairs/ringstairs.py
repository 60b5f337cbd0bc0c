"""Staircases of the bodies that no short ring bars, with papers from both sides (point 71)."""

from gapstairs.bars import block_bar, is_bar_of
from gapstairs.checks import has_just_keys
from gapstairs.fits import is_free
from gapstairs.gaps import grid_of, stairs_on
from gapstairs.moves import check_unlike
from gapstairs.passages import check_passage, passage_of
from gapstairs.sheets import are_sheets_of, check_many, has_ring_of, sheets_for, shortest_parting
from gapstairs.stairs import notches_of


def is_open_to(drawing, body, one, other, many):
    """Whether the body fits at both spots and no ring of at most many blocks parts them."""
    if not is_free(drawing, body, one) or not is_free(drawing, body, other):
        return False
    return not has_ring_of(drawing, body, one, other, many)


def stairs_of_rings(drawing, one, other, many):
    """ring_stairs, for values that are surely such."""
    return stairs_on(
        grid_of(drawing, [one, other]),
        lambda body: is_open_to(drawing, body, one, other, many),
    )


def ring_bar(drawing, body, one, other):
    """A bar for a body that some short ring bars, if no block does."""
    first = block_bar(drawing, body, one, other)
    return ("ring", shortest_parting(drawing, body, one, other)) if first is None else first


def is_short_bar(drawing, body, one, other, many, thing):
    """Whether any value is a bar, and a ring in it has at most many blocks."""
    return is_bar_of(drawing, body, one, other, thing) and (thing[0] == "block" or len(thing[1]) <= many)


def finite_corners(stairs):
    return [corner for corner in stairs if None not in corner]


def check_papers(drawing, one, other, many):
    check_passage(drawing, one, other)
    check_unlike(one, other)
    check_many(many)


def ring_stairs(drawing, one, other, many):
    """The staircase of all bodies that no block and no ring of at most many blocks bars."""
    check_passage(drawing, one, other)
    check_many(many)
    return stairs_of_rings(drawing, one, other, many)


def ring_row(drawing, one, other):
    """The list of ring_stairs for 2, 3, .. down to that of the bodies that get there."""
    check_passage(drawing, one, other)
    last = passage_of(drawing, one, other)
    row = [stairs_of_rings(drawing, one, other, 2)]
    while row[-1] != last:
        row.append(stairs_of_rings(drawing, one, other, len(row) + 2))
    return row


def ring_table(drawing, one, other, many):
    """A bar with a short ring for each notch of ring_stairs."""
    check_papers(drawing, one, other, many)
    return {
        notch: ring_bar(drawing, notch, one, other)
        for notch in notches_of(stairs_of_rings(drawing, one, other, many))
    }


def is_ring_table(drawing, one, other, many, thing):
    """Whether any value is a ring table."""
    check_papers(drawing, one, other, many)
    wanted = notches_of(stairs_of_rings(drawing, one, other, many))
    if not has_just_keys(thing, wanted):
        return False
    return all([is_short_bar(drawing, notch, one, other, many, thing[notch]) for notch in wanted])


def sheet_table(drawing, one, other, many):
    """Sheet heights for each finite corner of ring_stairs."""
    check_papers(drawing, one, other, many)
    return {
        corner: sheets_for(drawing, corner, one, other, many)
        for corner in finite_corners(stairs_of_rings(drawing, one, other, many))
    }


def is_sheet_table(drawing, one, other, many, thing):
    """Whether any value is a sheet table."""
    check_papers(drawing, one, other, many)
    wanted = finite_corners(stairs_of_rings(drawing, one, other, many))
    if not has_just_keys(thing, wanted):
        return False
    return all([are_sheets_of(drawing, corner, one, other, many, thing[corner]) for corner in wanted])
