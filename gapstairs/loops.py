"""Loops around blocks, and rings that bar them (point 46)."""

from gapstairs.chambers import check_free, free_grid, grid_spot, lead, neat, path_back
from gapstairs.checks import has_just_keys
from gapstairs.drawings import check_index
from gapstairs.fits import check_at
from gapstairs.marks import heart_of
from gapstairs.nests import from_outside, piece_of, step_before
from gapstairs.rings import find_parting, is_parting_of
from gapstairs.sides import passes, side_along
from gapstairs.ways import is_way_of


def check_loop(drawing, body, spot, i):
    """Refuse the first four parameters of all functions of this file, in their order."""
    check_at(drawing, body, spot)
    check_index(drawing, i)
    check_free(drawing, body, [spot])


def spread_twofold(grid, start, centre):
    """The dict from each pair (spot, side) that start with side 0 gets to, to the pair ahead of it."""
    came = {(start, 0): None}
    waiting = [(start, 0)]
    k = 0
    while k < len(waiting):
        here, side = waiting[k]
        k += 1
        for there in grid[here]:
            pair = (there, (side + passes(centre, here, there)) % 2)
            if pair not in came:
                came[pair] = (here, side)
                waiting.append(pair)
    return came


def loop_round(drawing, body, spot, i):
    """A way from the spot around block i and back; None if there is none."""
    check_loop(drawing, body, spot, i)
    start = grid_spot(drawing, body, spot)
    came = spread_twofold(free_grid(drawing, body), start, heart_of(drawing, body, i))
    if (start, 1) not in came:
        return None
    ahead = lead(drawing, body, spot)
    loop = [pair[0] for pair in path_back(came, (start, 1))]
    return neat(ahead + loop + list(reversed(ahead)))


def is_loop_round(drawing, body, spot, i, thing):
    """Whether any value is a loop around block i from the spot."""
    check_loop(drawing, body, spot, i)
    if not is_way_of(drawing, body, thing) or thing[0] != spot or thing[-1] != spot:
        return False
    return side_along(heart_of(drawing, body, i), thing) == 1


def line_of(drawing, body, i):
    """The ascending list of the piece of block i and all pieces around its doorstep."""
    piece = piece_of(drawing, body, i)
    return sorted([piece] + from_outside(drawing, body, step_before(drawing, body, piece)))


def loop_bar(drawing, body, spot, i):
    """A ring that parts the spot from each doorstep of the line of block i; None if some has none."""
    check_loop(drawing, body, spot, i)
    bar = {
        piece: find_parting(drawing, body, step_before(drawing, body, piece), spot)
        for piece in line_of(drawing, body, i)
    }
    return None if None in list(bar.values()) else bar


def is_loop_bar(drawing, body, spot, i, thing):
    """Whether any value is a dict from just the pieces of the line to such rings."""
    check_loop(drawing, body, spot, i)
    line = line_of(drawing, body, i)
    if not has_just_keys(thing, line):
        return False
    return all([
        is_parting_of(drawing, body, step_before(drawing, body, piece), spot, thing[piece])
        for piece in line
    ])
