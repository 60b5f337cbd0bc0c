"""Staircases of the bodies that get from spot to spot (point 52)."""

from gapstairs.checks import check_spot, is_spot_list
from gapstairs.drawings import check_drawing
from gapstairs.errors import BadSpots
from gapstairs.fits import is_free
from gapstairs.gaps import grid_of, stairs_on
from gapstairs.sides import links_of, odd_ring
from gapstairs.webs import MOST_PLACES, web_of


def gets(drawing, body, one, other):
    """Whether the two spots share a chamber, for values that are surely such."""
    if not is_free(drawing, body, one) or not is_free(drawing, body, other):
        return False
    # Two spots that fit share a chamber exactly if no ring parts them: quicker than to look for a way.
    return odd_ring(links_of(drawing, body, one, other), ()) is None


def check_passage(drawing, one, other):
    """Refuse the first three parameters of many functions, in their order."""
    check_drawing(drawing)
    check_spot(one)
    check_spot(other)


def passage_of(drawing, one, other):
    """stairs_between, for values that are surely such."""
    return stairs_on(grid_of(drawing, [one, other]), lambda body: gets(drawing, body, one, other))


def far_corner(drawing):
    """The spot of the greatest right and the greatest high, at which all bodies are outdoors."""
    if drawing.blocks == ():
        return (0, 0)
    return (max([block[2] for block in drawing.blocks]), max([block[3] for block in drawing.blocks]))


def stairs_between(drawing, one, other):
    """The staircase of all bodies for which the two spots share a chamber."""
    check_passage(drawing, one, other)
    return passage_of(drawing, one, other)


def stairs_out(drawing, spot):
    """The staircase of all bodies for which the spot is outdoors."""
    check_drawing(drawing)
    check_spot(spot)
    return passage_of(drawing, spot, far_corner(drawing))


def stairs_web(drawing, spots):
    """The Web of the spots, each two of them linked by their stairs_between."""
    check_drawing(drawing)
    if not is_spot_list(spots) or not 1 <= len(spots) <= MOST_PLACES:
        raise BadSpots("spots are a list of one to twelve pairs of numbers")
    many = len(spots)
    return web_of(many, {
        (i, j): passage_of(drawing, spots[i], spots[j])
        for i in range(many) for j in range(i + 1, many)
    })
