"""Staircases of the bodies that get around a block (point 55)."""

from gapstairs.checks import check_spot
from gapstairs.drawings import check_drawing, check_index
from gapstairs.fits import is_free
from gapstairs.gaps import grid_of, stairs_on
from gapstairs.loops import line_of
from gapstairs.nests import step_before
from gapstairs.passages import gets


def gets_round(drawing, body, spot, i):
    """Whether the body fits at the spot and has a loop around block i from there."""
    if not is_free(drawing, body, spot):
        return False
    # There is a loop exactly if there is no loop bar: if a doorstep of the line is not parted from the spot.
    steps = [step_before(drawing, body, piece) for piece in line_of(drawing, body, i)]
    return any([gets(drawing, body, step, spot) for step in steps])


def loop_stairs(drawing, spot, i):
    """The staircase of all bodies that have a loop around block i from the spot."""
    check_drawing(drawing)
    check_spot(spot)
    check_index(drawing, i)
    return stairs_on(grid_of(drawing, [spot]), lambda body: gets_round(drawing, body, spot, i))
