"""Which blocks have to be taken away, and what shows that fewer do not do (point 72)."""

from gapstairs.bars import is_block_bar
from gapstairs.chambers import check_two
from gapstairs.checks import is_lot
from gapstairs.errors import BadLot
from gapstairs.fits import box_of, lies_in
from gapstairs.moves import check_most
from gapstairs.rings import is_parting_of
from gapstairs.sides import links_of, odd_ring


def bars_on(drawing, body, one, other):
    """The list of the bars ("block", k, i) of the two spots."""
    return [
        ("block", k, i) for k, spot in enumerate((one, other))
        for i, block in enumerate(drawing.blocks) if lies_in(spot, box_of(block, body))
    ]


def bars_and_links(drawing, body, one, other):
    """What needs hang on: the bars of the two spots, and the links of all blocks."""
    return (bars_on(drawing, body, one, other), links_of(drawing, body, one, other))


def need_of(known, lot):
    """A need of the lot, by what bars_and_links tells; None if the lot is enough."""
    bars, links = known
    for bar in bars:
        if bar[2] not in lot:
            return bar
    # What the marks of near blocks say does not hang on other blocks.
    ring = odd_ring(links, lot)
    return None if ring is None else ("ring", ring)


def blocks_in(need):
    """The blocks of which a greater lot that is enough has one."""
    return need[1] if need[0] == "ring" else (need[2],)


def with_block(lot, i):
    return tuple(sorted(lot + (i,)))


def needs_from(known, most, just_one):
    """The dict from the lots of at most most blocks to which needs lead from (), least first, to their needs.

    A lot that is enough has None. If just_one, the first of them is the last key.
    """
    found = {(): need_of(known, ())}
    waiting = [()]
    k = 0
    while k < len(waiting):
        lot = waiting[k]
        k += 1
        need = found[lot]
        if need is None and just_one:
            return {seen: found[seen] for seen in waiting[:k]}
        if need is None or len(lot) >= most:
            continue
        for i in blocks_in(need):
            larger = with_block(lot, i)
            if larger not in found:
                found[larger] = need_of(known, larger)
                waiting.append(larger)
    return found


def first_enough(drawing, body, one, other, most):
    """A lot of as few blocks as possible, most at most, that is enough; None if there is none."""
    found = needs_from(bars_and_links(drawing, body, one, other), most, True)
    lots = [lot for lot in found if found[lot] is None]
    return lots[0] if lots else None


def fewest_out(drawing, body, one, other):
    """fewest_taken, for values that are surely such."""
    return len(first_enough(drawing, body, one, other, len(drawing.blocks)))


def table_for(drawing, body, one, other, most):
    """A need table for most; None if some lot of at most most blocks is enough."""
    found = needs_from(bars_and_links(drawing, body, one, other), most, False)
    return None if None in list(found.values()) else {lot: found[lot] for lot in sorted(list(found))}


def is_need_of(drawing, body, one, other, bars, lot, thing):
    """Whether any value is a need of the lot, bars being those of the two spots."""
    if not isinstance(thing, tuple):
        return False
    if is_block_bar(drawing, body, (one, other), thing):
        return thing[2] not in lot
    if any([bar[2] not in lot for bar in bars]) or len(thing) != 2 or thing[0] != "ring":
        return False
    return is_parting_of(drawing, body, one, other, thing[1]) and not any([i in lot for i in thing[1]])


def is_table_of(drawing, body, one, other, most, thing):
    """Whether any value is a need table for most, the other parameters surely being such."""
    many = len(drawing.blocks)
    if not isinstance(thing, dict) or not all([is_lot(lot, many) and len(lot) <= most for lot in thing]):
        return False
    if () not in thing:
        return False
    bars = bars_on(drawing, body, one, other)
    for lot in thing:
        if not is_need_of(drawing, body, one, other, bars, lot, thing[lot]):
            return False
        if len(lot) < most and not all([with_block(lot, i) in thing for i in blocks_in(thing[lot])]):
            return False
    return True


def check_lot(drawing, lot):
    if not is_lot(lot, len(drawing.blocks)):
        raise BadLot("a lot is an ascending tuple of different indexes")


def check_needs(drawing, body, one, other, most):
    check_two(drawing, body, one, other)
    check_most(most)


def is_enough(drawing, body, one, other, lot):
    """Whether the body gets from one to other without the blocks of the lot."""
    check_two(drawing, body, one, other)
    check_lot(drawing, lot)
    return need_of(bars_and_links(drawing, body, one, other), lot) is None


def need_table(drawing, body, one, other, most):
    """A need table for most; None if some lot of at most most blocks is enough."""
    check_needs(drawing, body, one, other, most)
    return table_for(drawing, body, one, other, most)


def is_need_table(drawing, body, one, other, most, thing):
    """Whether any value is a need table for most."""
    check_needs(drawing, body, one, other, most)
    return is_table_of(drawing, body, one, other, most, thing)


def fewest_taken(drawing, body, one, other):
    """The least number of blocks of a lot that is enough."""
    check_two(drawing, body, one, other)
    return fewest_out(drawing, body, one, other)


def least_lots(drawing, body, one, other):
    """The ascending list of all lots that are enough while no lesser part of them is."""
    check_two(drawing, body, one, other)
    known = bars_and_links(drawing, body, one, other)
    found = needs_from(known, len(drawing.blocks), False)
    return sorted([
        lot for lot in found if found[lot] is None
        and not any([need_of(known, tuple([k for k in lot if k != i])) is None for i in lot])
    ])
