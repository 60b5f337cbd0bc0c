"""One plan that sorts all bodies into boxes (point 95)."""

from gapstairs.cells import fine_cells_of, has_size
from gapstairs.checks import check_spot, is_list
from gapstairs.doubts import is_aim_box
from gapstairs.drawings import check_drawing
from gapstairs.errors import BadOrders, NoCase, TooMany
from gapstairs.fits import is_free
from gapstairs.stairs import either, has, is_stairs
from gapstairs.tables import least_body

MOST_CASES = 60


def is_order(thing):
    """Whether any value is a pair of a staircase and a box."""
    return isinstance(thing, tuple) and len(thing) == 2 and is_stairs(thing[0]) and is_aim_box(thing[1])


def check_orders(orders):
    if not is_list(orders) or len(orders) == 0 or not all([is_order(order) for order in orders]):
        raise BadOrders("orders are a list of one or more pairs of a staircase and a box")


def height_above(stairs, width, least):
    """The least height, from least on, with which the staircase does not hold a body of the width; None."""
    tops = [corner[1] for corner in stairs if corner[0] is None or corner[0] >= width]
    if None in tops:
        return None
    return max([least] + [top + 1 for top in tops])


def first_between(cell, ahead, stairs):
    """The first body of the cell that stairs holds and ahead does not; None if there is none."""
    starts = [corner[0] + 1 for corner in ahead if corner[0] is not None]
    # Beyond such a width lower bodies are out of what is ahead; between two of them nothing changes for the better.
    for width in sorted([cell[0][0]] + [start for start in starts if start > cell[0][0]]):
        height = height_above(ahead, width, cell[1][0])
        if height is not None and has_size(cell[0], width) and has_size(cell[1], height):
            if has(stairs, (width, height)):
                return (width, height)
    return None


def all_ahead(orders):
    """The list with the staircase of what the orders ahead of each one hold."""
    found = [()]
    for stairs, _ in orders[:-1]:
        found.append(either(found[-1], stairs))
    return found


def spots_of(start, orders):
    """The list of the start and of the ends of each box."""
    return [start] + [end for _, box in orders for end in (box[:2], box[2:])]


def sorting_cases(drawing, start, orders):
    """The cases, and the aim, of one body for each kind that the orders tell apart."""
    check_drawing(drawing)
    check_spot(start)
    check_orders(orders)
    ahead = all_ahead(orders)
    cases = []
    boxes = []
    for cell in fine_cells_of(drawing, spots_of(start, orders)):
        if not is_free(drawing, least_body(cell), start):
            continue
        for k, (stairs, box) in enumerate(orders):
            body = first_between(cell, ahead[k], stairs)
            if body is not None:
                cases.append((body, start))
                boxes.append(box)
        if len(cases) > MOST_CASES:
            raise TooMany(MOST_CASES)
    if cases == []:
        raise NoCase("no body is asked for")
    return (cases, ("reach", tuple(boxes)))
