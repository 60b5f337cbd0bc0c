"""Ways of straight moves (point 31)."""

from gapstairs.checks import check_spot, is_spot_list
from gapstairs.errors import BadWay, NotJoined
from gapstairs.fits import barred_boxes, check_at, check_here, is_free


def line_meets(one, other, box):
    """Whether a place of the upright or level line from one to other lies in the open box."""
    across = min(one[0], other[0]) < box[2] and max(one[0], other[0]) > box[0]
    return across and min(one[1], other[1]) < box[3] and max(one[1], other[1]) > box[1]


def is_line_free(boxes, one, other):
    """Whether the line from one to other keeps out of all barred boxes."""
    if one[0] != other[0] and one[1] != other[1]:
        return False
    return not any([line_meets(one, other, box) for box in boxes])


def is_clear(drawing, body, one, other):
    """Whether the body can go straight from one to other."""
    check_at(drawing, body, one)
    check_spot(other)
    return is_line_free(barred_boxes(drawing, body), one, other)


def is_way_of(drawing, body, thing):
    """Whether any value is a way, drawing and body surely being such."""
    if not is_spot_list(thing) or len(thing) == 0 or not is_free(drawing, body, thing[0]):
        return False
    boxes = barred_boxes(drawing, body)
    return all([
        thing[k] != thing[k + 1] and is_line_free(boxes, thing[k], thing[k + 1])
        for k in range(len(thing) - 1)
    ])


def is_way(drawing, body, thing):
    """Whether any value is a way of the body."""
    check_here(drawing, body)
    return is_way_of(drawing, body, thing)


def differ_in_one(one, other):
    """Whether the spots differ in just one number."""
    return (one[0] == other[0]) != (one[1] == other[1])


def is_stop_list(thing):
    """Whether it is a list of spots, each two neighbours of which differ in just one number."""
    if not is_spot_list(thing) or len(thing) == 0:
        return False
    return all([differ_in_one(thing[k], thing[k + 1]) for k in range(len(thing) - 1)])


def check_stops(way):
    if not is_stop_list(way):
        raise BadWay("a way is a list of spots that differ in one number")


def is_between(spot, one, other):
    """Whether the spot stands strictly between the two on one line."""
    if one[0] == spot[0] == other[0]:
        return min(one[1], other[1]) < spot[1] < max(one[1], other[1])
    return one[1] == spot[1] == other[1] and min(one[0], other[0]) < spot[0] < max(one[0], other[0])


def straight(way):
    """The list without the spots that stand between their neighbours."""
    last = len(way) - 1
    return [
        spot for k, spot in enumerate(way)
        if k in (0, last) or not is_between(spot, way[k - 1], way[k + 1])
    ]


def straightened(way):
    """The way without all spots at which it goes straight on."""
    check_stops(way)
    return straight(way)


def turned_way(way):
    """The way from its last spot to the first."""
    check_stops(way)
    return list(reversed(way))


def joined_ways(first, second):
    """The first way, and the second one behind it."""
    check_stops(first)
    check_stops(second)
    if first[-1] != second[0]:
        raise NotJoined("the second way does not begin where the first one ends")
    return list(first) + list(second[1:])
