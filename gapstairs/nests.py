"""Pieces of near blocks, and how they stand in one another (point 45)."""

from gapstairs.chambers import check_free, clusters_of
from gapstairs.drawings import check_index
from gapstairs.fits import check_at, check_here
from gapstairs.rings import base_rings, parity_of


def piece_of(drawing, body, i):
    """The piece that has block i."""
    return [piece for piece in clusters_of(drawing, body) if i in piece][0]


def step_before(drawing, body, piece):
    """The doorstep of the piece."""
    left, low = drawing.blocks[piece[0]][:2]
    return (left - body[0], low - body[1] + 1)


def doorstep(drawing, body, i):
    """The doorstep of the piece that has block i."""
    check_here(drawing, body)
    check_index(drawing, i)
    return step_before(drawing, body, piece_of(drawing, body, i))


def from_outside(drawing, body, spot):
    """The list of the pieces that have a ring around a spot that fits, the outermost first."""
    found = [
        ring[0] for ring in base_rings(drawing, body)
        if parity_of(drawing, body, ring, spot) == 1
    ]
    # A ring around the doorstep of a piece has a block further left than the piece has one:
    # so pieces that ascend come from the outside.
    return [piece for piece in clusters_of(drawing, body) if any([i in piece for i in found])]


def around(drawing, body, spot):
    """The list of all pieces that have a ring around the spot, the outermost first."""
    check_at(drawing, body, spot)
    check_free(drawing, body, [spot])
    return from_outside(drawing, body, spot)


def innermost(drawing, body, spot):
    """The last piece around a spot that fits; None if there is none."""
    found = from_outside(drawing, body, spot)
    return found[-1] if found else None


def nest(drawing, body):
    """The dict from each piece to the innermost one around it, or None."""
    check_here(drawing, body)
    return {
        piece: innermost(drawing, body, step_before(drawing, body, piece))
        for piece in clusters_of(drawing, body)
    }
