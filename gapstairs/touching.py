"""Bodies that touch blocks, go until they do, and slide along them (point 80)."""

from gapstairs.chambers import check_free
from gapstairs.errors import BadAlong, BadSide
from gapstairs.fits import barred_boxes, check_at

SIDES = ("left", "down", "right", "up")


def is_side(thing):
    """Whether any value is one of SIDES."""
    return isinstance(thing, str) and thing in SIDES


def left_turn(side):
    return SIDES[(SIDES.index(side) + 1) % 4]


def right_turn(side):
    return SIDES[(SIDES.index(side) + 3) % 4]


def is_across(side, along):
    """Whether any value is a side across the side."""
    return along in (left_turn(side), right_turn(side))


def axis_of(side):
    """0 for a side along x, 1 for one along y."""
    return SIDES.index(side) % 2


def sign_of(side):
    """1 for a side to which numbers rise, -1 for the others."""
    return 1 if SIDES.index(side) >= 2 else -1


def put_at(spot, axis, number):
    """The spot with another number on the axis."""
    return (number, spot[1]) if axis == 0 else (spot[0], number)


def beside(boxes, spot, axis):
    """The list of the boxes that the line through the spot along the axis goes through."""
    across = 1 - axis
    return [box for box in boxes if box[across] < spot[across] < box[across + 2]]


def wall_of(box, side):
    """The number at which a body going to the side comes to the box."""
    axis = axis_of(side)
    return box[axis] if sign_of(side) == 1 else box[axis + 2]


def is_touching(boxes, spot, side):
    """Whether one of the boxes is touched on the side."""
    axis = axis_of(side)
    return any([wall_of(box, side) == spot[axis] for box in beside(boxes, spot, axis)])


def go(boxes, spot, side):
    """gone, for values that are surely such, among the barred boxes."""
    axis = axis_of(side)
    sign = sign_of(side)
    walls = [wall_of(box, side) for box in beside(boxes, spot, axis)]
    ahead = [sign * wall for wall in walls if sign * wall >= sign * spot[axis]]
    return put_at(spot, axis, sign * min(ahead)) if ahead else None


def touched_to(boxes, spot, side, along):
    """How far, counted to the side along, a side is touched all the way from the spot."""
    axis = axis_of(along)
    sign = sign_of(along)
    walls = [
        tuple(sorted([sign * box[axis], sign * box[axis + 2]]))
        for box in boxes if wall_of(box, side) == spot[1 - axis]
    ]
    here = sign * spot[axis]
    # At the spot itself the side need not be touched, at all further places it must be.
    far = max([end for start, end in walls if start <= here < end], default=here)
    longer = far
    while longer is not None:
        far = longer
        longer = max([end for start, end in walls if start < far < end], default=None)
    return far


def slide(boxes, spot, side, along):
    """slid, for values that are surely such, among the barred boxes."""
    axis = axis_of(along)
    sign = sign_of(along)
    far = touched_to(boxes, spot, side, along)
    end = go(boxes, spot, along)
    if end is not None:
        far = min(far, sign * end[axis])
    return put_at(spot, axis, sign * far)


def check_side(side):
    if not is_side(side):
        raise BadSide("a side is one of SIDES")


def check_feeling(drawing, body, spot, side):
    check_at(drawing, body, spot)
    check_side(side)
    check_free(drawing, body, [spot])


def touching(drawing, body, spot, side):
    """The ascending list of the indexes of the blocks that are touched on the side."""
    check_feeling(drawing, body, spot, side)
    return [i for i, box in enumerate(barred_boxes(drawing, body)) if is_touching([box], spot, side)]


def touched(drawing, body, spot):
    """The tuple of the touched sides."""
    check_at(drawing, body, spot)
    check_free(drawing, body, [spot])
    boxes = barred_boxes(drawing, body)
    return tuple([side for side in SIDES if is_touching(boxes, spot, side)])


def gone(drawing, body, spot, side):
    """The spot at which the body is stopped when it goes to the side; None if it never is."""
    check_feeling(drawing, body, spot, side)
    return go(barred_boxes(drawing, body), spot, side)


def slid(drawing, body, spot, side, along):
    """The farthest spot to which the body slides along while the side is touched."""
    check_at(drawing, body, spot)
    check_side(side)
    if not is_across(side, along):
        raise BadAlong("along is a side across the side")
    check_free(drawing, body, [spot])
    return slide(barred_boxes(drawing, body), spot, side, along)
