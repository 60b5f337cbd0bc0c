"""Gaps between blocks, and near blocks (point 40)."""

from gapstairs.drawings import check_drawing, check_pair
from gapstairs.fits import check_here


def gap_of(one, other):
    """The gap of two blocks, along x and along y."""
    return (max(other[0] - one[2], one[0] - other[2]), max(other[1] - one[3], one[1] - other[3]))


def are_near(drawing, body, i, j):
    """Whether two different blocks are near, for values that are surely such."""
    along = gap_of(drawing.blocks[i], drawing.blocks[j])
    return along[0] < body[0] and along[1] < body[1]


def all_near(drawing, body):
    """The ascending list of all near pairs."""
    many = len(drawing.blocks)
    return [(i, j) for i in range(many) for j in range(i + 1, many) if are_near(drawing, body, i, j)]


def least_near(drawing, i, j):
    """The least body for which two different blocks are near."""
    along = gap_of(drawing.blocks[i], drawing.blocks[j])
    return (max(1, along[0] + 1), max(1, along[1] + 1))


def gap(drawing, i, j):
    """The gap of blocks i and j."""
    check_drawing(drawing)
    check_pair(drawing, i, j)
    return gap_of(drawing.blocks[i], drawing.blocks[j])


def near(drawing, body, i, j):
    """Whether blocks i and j are near for the body."""
    check_here(drawing, body)
    check_pair(drawing, i, j)
    return are_near(drawing, body, i, j)


def near_pairs(drawing, body):
    """The ascending list of all near pairs (i, j), i < j."""
    check_here(drawing, body)
    return all_near(drawing, body)


def near_from(drawing, i, j):
    """The least body for which blocks i and j are near."""
    check_drawing(drawing)
    check_pair(drawing, i, j)
    return least_near(drawing, i, j)
