"""Staircases of the bodies that get there if some blocks are taken away (point 73)."""

from itertools import combinations

from gapstairs.checks import has_just_keys, is_lot
from gapstairs.climbs import climb_for, serves
from gapstairs.drawings import Drawing
from gapstairs.gaps import grid_of, stairs_on, with_one_above
from gapstairs.moves import check_most, fewest, is_at_most
from gapstairs.passages import check_passage, gets, passage_of
from gapstairs.removals import bars_and_links, fewest_out, first_enough, is_table_of, need_of, table_for
from gapstairs.sheets import check_many
from gapstairs.stairs import ALL, notches_of


def without_lot(drawing, lot):
    """The Drawing without the blocks of a value that is surely a lot."""
    return Drawing([block for i, block in enumerate(drawing.blocks) if i not in lot])


def blocks_for(found, drawing, body, one, other):
    """The fewest blocks to take for the body, which are kept in the dict found."""
    if body not in found:
        found[body] = fewest_out(drawing, body, one, other)
    return found[body]


def stairs_less(found, drawing, one, other, most):
    """take_stairs, for values that are surely such; found keeps the numbers of bodies."""
    return stairs_on(
        grid_of(drawing, [one, other]),
        lambda body: blocks_for(found, drawing, body, one, other) <= most,
    )


def stairs_of_taking(drawing, one, other, most):
    return stairs_on(
        grid_of(drawing, [one, other]),
        lambda body: first_enough(drawing, body, one, other, most) is not None,
    )


def check_takes(drawing, one, other, most):
    check_passage(drawing, one, other)
    check_most(most)


def take_stairs(drawing, one, other, most):
    """The staircase of all bodies for which some lot of at most most blocks is enough."""
    check_takes(drawing, one, other, most)
    return stairs_of_taking(drawing, one, other, most)


def take_row(drawing, one, other):
    """The list of take_stairs for 0, 1, 2, .. up to the first that holds all bodies."""
    check_passage(drawing, one, other)
    found = {}
    row = [stairs_less(found, drawing, one, other, 0)]
    while row[-1] != ALL:
        row.append(stairs_less(found, drawing, one, other, len(row)))
    return row


def body_of(grid, corner):
    """A body of which the corner is the top."""
    wide = with_one_above(grid[0])[-1] if corner[0] is None else corner[0]
    high = with_one_above(grid[1])[-1] if corner[1] is None else corner[1]
    return (wide, high)


def lot_for(drawing, corner, one, other, most):
    """A pair of a lot and stops that serve a corner of take_stairs without it."""
    lot = first_enough(drawing, body_of(grid_of(drawing, [one, other]), corner), one, other, most)
    return (lot, climb_for(without_lot(drawing, lot), corner, one, other))


def is_lot_for(drawing, corner, one, other, most, thing):
    """Whether any value is a pair of a lot of at most most blocks and stops that serve the corner without it."""
    if not isinstance(thing, tuple) or len(thing) != 2:
        return False
    if not is_lot(thing[0], len(drawing.blocks)) or len(thing[0]) > most:
        return False
    return serves(without_lot(drawing, thing[0]), corner, one, other, thing[1])


def lot_table(drawing, one, other, most):
    """A lot and stops for each corner of take_stairs."""
    check_takes(drawing, one, other, most)
    return {
        corner: lot_for(drawing, corner, one, other, most)
        for corner in stairs_of_taking(drawing, one, other, most)
    }


def is_lot_table(drawing, one, other, most, thing):
    """Whether any value is a lot table."""
    check_takes(drawing, one, other, most)
    wanted = stairs_of_taking(drawing, one, other, most)
    if not has_just_keys(thing, wanted):
        return False
    return all([is_lot_for(drawing, corner, one, other, most, thing[corner]) for corner in wanted])


def need_tables(drawing, one, other, most):
    """A need table for each notch of take_stairs."""
    check_takes(drawing, one, other, most)
    return {
        notch: table_for(drawing, notch, one, other, most)
        for notch in notches_of(stairs_of_taking(drawing, one, other, most))
    }


def are_need_tables(drawing, one, other, most, thing):
    """Whether any value is a dict from just the notches of take_stairs to need tables."""
    check_takes(drawing, one, other, most)
    wanted = notches_of(stairs_of_taking(drawing, one, other, most))
    if not has_just_keys(thing, wanted):
        return False
    return all([is_table_of(drawing, notch, one, other, most, thing[notch]) for notch in wanted])


def lots_of(blocks, many):
    """The list of all lots of just so many blocks."""
    return list(combinations(range(blocks), many))


def trades(drawing, lots, body, one, other, most):
    """Whether a way of at most most moves leads from one to other without some of the lots."""
    known = bars_and_links(drawing, body, one, other)
    for lot in lots:
        # Whether there is a way at all is told sooner than how many moves it makes.
        if need_of(known, lot) is None:
            if is_at_most(fewest(without_lot(drawing, lot), body, one, other), most):
                return True
    return False


def trade_stairs(drawing, one, other, most, many):
    """The staircase of all bodies that get there by few moves if at most many blocks are taken."""
    check_takes(drawing, one, other, most)
    check_many(many)
    # A block more taken never makes a way longer: so the greatest lots are enough.
    lots = lots_of(len(drawing.blocks), min(many, len(drawing.blocks)))
    return stairs_on(
        grid_of(drawing, [one, other]),
        lambda body: trades(drawing, lots, body, one, other, most),
    )


def binding(drawing, one, other):
    """For each block the notches of the passage that are held if it is taken."""
    check_passage(drawing, one, other)
    wanted = notches_of(passage_of(drawing, one, other))
    return {
        i: [notch for notch in wanted if gets(without_lot(drawing, (i,)), notch, one, other)]
        for i in range(len(drawing.blocks))
    }
