"""A way for each corner of a passage (point 53)."""

from gapstairs.chambers import find_way, neat
from gapstairs.checks import has_just_keys
from gapstairs.passages import check_passage, passage_of
from gapstairs.rooms import stairs_along
from gapstairs.stairs import has
from gapstairs.ways import is_stop_list


def by_far(drawing, one, other, axis):
    """Stops from one to other by way of the numbers behind all blocks, right for axis 0, up for 1."""
    far = max([block[2 + axis] for block in drawing.blocks] + [one[axis], other[axis]])
    if axis == 0:
        return neat([one, (far, one[1]), (far, other[1]), other])
    return neat([one, (one[0], far), (other[0], far), other])


def climb_for(drawing, corner, one, other):
    """A list of stops that serves a corner of the passage."""
    if one == other:
        return [one]
    # Where all widths fit there is nothing to the right, where all heights fit nothing above.
    if corner[0] is None:
        return by_far(drawing, one, other, 0)
    if corner[1] is None:
        return by_far(drawing, one, other, 1)
    return find_way(drawing, corner, one, other)


def serves(drawing, corner, one, other, thing):
    """Whether any value is a list of stops from one to other that is a way for all that the corner holds."""
    if not is_stop_list(thing) or thing[0] != one or thing[-1] != other:
        return False
    return has(stairs_along(drawing, thing), corner)


def are_climbs(drawing, one, other, stairs, thing):
    """Whether it is a dict from just the corners of stairs to lists of stops that serve them."""
    if not has_just_keys(thing, stairs):
        return False
    return all([serves(drawing, corner, one, other, thing[corner]) for corner in stairs])


def climb_table(drawing, one, other):
    """A list of stops for each corner of stairs_between."""
    check_passage(drawing, one, other)
    return {corner: climb_for(drawing, corner, one, other) for corner in passage_of(drawing, one, other)}


def is_climb_table(drawing, one, other, thing):
    """Whether any value is a climb table for the two spots."""
    check_passage(drawing, one, other)
    return are_climbs(drawing, one, other, passage_of(drawing, one, other), thing)
