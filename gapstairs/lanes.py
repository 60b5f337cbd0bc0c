"""Lanes: the stretches of lines on which a body goes freely (point 60)."""

from gapstairs.checks import check_spot, check_spots, is_number
from gapstairs.errors import BadLane
from gapstairs.fits import barred_boxes, check_here

UPRIGHT = "upright"
LEVEL = "level"


def is_end(thing):
    return thing is None or is_number(thing)


def is_lane(thing):
    """Whether any value is a lane ("upright", x, low, high) or ("level", y, left, right)."""
    if not isinstance(thing, tuple) or len(thing) != 4 or thing[0] not in (UPRIGHT, LEVEL):
        return False
    if not is_number(thing[1]) or not is_end(thing[2]) or not is_end(thing[3]):
        return False
    return thing[2] is None or thing[3] is None or thing[2] <= thing[3]


def check_lane(lane):
    if not is_lane(lane):
        raise BadLane("a lane is a stretch of an upright or of a level line")


def is_along(lane, number):
    """Whether the number is not beyond an end of the lane."""
    return (lane[2] is None or lane[2] <= number) and (lane[3] is None or number <= lane[3])


def is_on(lane, spot):
    """Whether the spot is on the lane, for values that are surely such."""
    if lane[0] == UPRIGHT:
        return lane[1] == spot[0] and is_along(lane, spot[1])
    return lane[1] == spot[1] and is_along(lane, spot[0])


def cross(lane, other):
    """The spot that is on both lanes; None if there is none, and for two of one kind."""
    if lane[0] == other[0] or not is_along(lane, other[1]) or not is_along(other, lane[1]):
        return None
    return (lane[1], other[1]) if lane[0] == UPRIGHT else (other[1], lane[1])


def lines_of(drawing, body, spots):
    """The pair of the upright and the level lines, for values that are surely such."""
    boxes = barred_boxes(drawing, body)
    return tuple([
        tuple(sorted(set([box[k] for box in boxes] + [box[k + 2] for box in boxes] + [spot[k] for spot in spots])))
        for k in (0, 1)
    ])


def stretches(gone):
    """The list of the pairs of ends that are left of a line without the open stretches gone."""
    found = []
    start = None
    for low, high in sorted(gone):
        # Two open stretches that only touch leave the place between them.
        if start is None or low >= start:
            found.append((start, low))
        start = high if start is None else max(start, high)
    found.append((start, None))
    return found


def rows_of(drawing, body, spots):
    """A pair of lists, of upright and of level lines: each line's number and the list of its lanes."""
    boxes = barred_boxes(drawing, body)
    uprights, levels = lines_of(drawing, body, spots)
    return (
        [(x, [
            (UPRIGHT, x, low, high)
            for low, high in stretches([(box[1], box[3]) for box in boxes if box[0] < x < box[2]])
        ]) for x in uprights],
        [(y, [
            (LEVEL, y, left, right)
            for left, right in stretches([(box[0], box[2]) for box in boxes if box[1] < y < box[3]])
        ]) for y in levels],
    )


def lanes_in(rows):
    """The list of all lanes of the rows, in their order."""
    return [lane for number, row in rows[0] + rows[1] for lane in row]


def lines(drawing, body, spots):
    """The pair of the numbers of the upright lines and of the level lines."""
    check_here(drawing, body)
    check_spots(spots)
    return lines_of(drawing, body, spots)


def on_lane(lane, spot):
    """Whether the spot is on the lane."""
    check_lane(lane)
    check_spot(spot)
    return is_on(lane, spot)


def crossing(lane, other):
    """The spot that is on both lanes; None if there is none."""
    check_lane(lane)
    check_lane(other)
    return cross(lane, other)


def lanes(drawing, body, spots):
    """The list of all lanes: the upright ones, then the level ones."""
    check_here(drawing, body)
    check_spots(spots)
    return lanes_in(rows_of(drawing, body, spots))
