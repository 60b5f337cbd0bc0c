"""Which bodies can cover a cell, with papers from both sides (point 22)."""

from gapstairs.bodies import check_body
from gapstairs.checks import check_spot, has_just_keys, is_lot, is_number
from gapstairs.drawings import check_drawing
from gapstairs.errors import BadCell
from gapstairs.grounds import Ground, boxes_of, check_ground, ground_from, is_cell
from gapstairs.stairs import has, is_stairs, notches_of, stairs_of


def check_cell(cell):
    if not is_cell(cell):
        raise BadCell("a cell is a pair of numbers")


def fits_ground(ground, body, spot):
    """Whether the body at the spot covers no cell of the ground."""
    check_ground(ground)
    check_body(body)
    check_spot(spot)
    covers = (spot[0], spot[1], spot[0] + body[0], spot[1] + body[1])
    return not any([overlap(block, covers) for block in boxes_of(ground)])


def is_below(one, other):
    """Whether the end is below the other one, None being no end."""
    return one is None or other is None or one < other


def overlap(block, box):
    """Whether the block and the box, which may have no ends, have a cell in common."""
    across = is_below(box[0], block[2]) and is_below(block[0], box[2])
    return across and is_below(box[1], block[3]) and is_below(block[1], box[3])


def tallest(blocks, left, right, y):
    """The tallest empty box from left to right with the row at y; None if a block is in the way."""
    low = None
    high = None
    for block in blocks:
        if is_below(left, block[2]) and is_below(block[0], right):
            if block[3] <= y:
                low = block[3] if low is None else max(low, block[3])
            elif block[1] > y:
                high = block[1] if high is None else min(high, block[1])
            else:
                return None
    return (left, low, right, high)


def length(start, end):
    return None if start is None or end is None else end - start


def corner_of(box):
    return (length(box[0], box[2]), length(box[1], box[3]))


def greatest_boxes(blocks, cell):
    """A list of empty boxes for the cell, all that cannot be made greater among them."""
    lefts = [None] + sorted(set([block[2] for block in blocks if block[2] <= cell[0]]))
    rights = [None] + sorted(set([block[0] for block in blocks if block[0] > cell[0]]))
    boxes = [tallest(blocks, left, right, cell[1]) for left in lefts for right in rights]
    return [box for box in boxes if box is not None]


def stairs_over(blocks, cell):
    """The staircase of the bodies that can cover the cell among these blocks."""
    return stairs_of([corner_of(box) for box in greatest_boxes(blocks, cell)])


def check_both(drawing, cell):
    check_drawing(drawing)
    check_cell(cell)


def cover_stairs(drawing, cell):
    """The staircase of the bodies that can cover the cell."""
    check_both(drawing, cell)
    return stairs_over(drawing.blocks, cell)


def cover_boxes(drawing, cell):
    """An empty box for each corner of cover_stairs."""
    check_both(drawing, cell)
    boxes = greatest_boxes(drawing.blocks, cell)
    stairs = stairs_over(drawing.blocks, cell)
    return {corner: [box for box in boxes if corner_of(box) == corner][0] for corner in stairs}


def is_box_for(drawing, cell, corner, thing):
    """Whether it is an empty box for the cell that has this corner."""
    if not isinstance(thing, tuple) or len(thing) != 4:
        return False
    if not all([item is None or is_number(item) for item in thing]) or corner_of(thing) != corner:
        return False
    square = (cell[0], cell[1], cell[0] + 1, cell[1] + 1)
    if not has_box(thing, square):
        return False
    return not any([overlap(block, thing) for block in drawing.blocks])


def has_box(box, inner):
    """Whether the box, which may have no ends, has the whole inner box."""
    lower = [box[k] is None or box[k] <= inner[k] for k in (0, 1)]
    upper = [box[k] is None or box[k] >= inner[k] for k in (2, 3)]
    return all(lower + upper)


def are_boxes(drawing, cell, stairs, thing):
    """Whether it is a dict from just the corners of stairs to empty boxes with these corners."""
    if not has_just_keys(thing, stairs):
        return False
    return all([is_box_for(drawing, cell, corner, thing[corner]) for corner in stairs])


def are_cover_boxes(drawing, cell, thing):
    """Whether any value is such a dict for cover_stairs."""
    check_both(drawing, cell)
    return are_boxes(drawing, cell, stairs_over(drawing.blocks, cell), thing)


def bars_cover(drawing, cell, body, lot):
    """Whether the blocks of the lot alone keep the body from covering the cell."""
    return not has(stairs_over([drawing.blocks[i] for i in lot], cell), body)


def least_bar(drawing, cell, body):
    """A cover bar of the body from which no block can be left out."""
    lot = tuple(range(len(drawing.blocks)))
    for i in range(len(drawing.blocks)):
        less = tuple([k for k in lot if k != i])
        if bars_cover(drawing, cell, body, less):
            lot = less
    return lot


def cover_bars(drawing, cell):
    """A cover bar, with no block to spare, for each notch of cover_stairs."""
    check_both(drawing, cell)
    wanted = notches_of(stairs_over(drawing.blocks, cell))
    return {notch: least_bar(drawing, cell, notch) for notch in wanted}


def are_bars(drawing, cell, stairs, thing):
    """Whether it is a dict from just the notches of stairs to cover bars of them."""
    wanted = notches_of(stairs)
    if not has_just_keys(thing, wanted):
        return False
    many = len(drawing.blocks)
    return all([
        is_lot(thing[notch], many) and bars_cover(drawing, cell, notch, thing[notch])
        for notch in wanted
    ])


def are_cover_bars(drawing, cell, thing):
    """Whether any value is such a dict for cover_stairs."""
    check_both(drawing, cell)
    return are_bars(drawing, cell, stairs_over(drawing.blocks, cell), thing)


def are_cover_papers(drawing, cell, stairs, boxes, bars):
    """Whether the boxes show that all of stairs covers the cell, and the bars that nothing else does."""
    check_both(drawing, cell)
    if not is_stairs(stairs):
        return False
    return are_boxes(drawing, cell, stairs, boxes) and are_bars(drawing, cell, stairs, bars)


def grown(boxes, left, low, right, high):
    """The Ground of the boxes, each grown by as much as told on its four sides."""
    return ground_from([
        (box[0] - left, box[1] - low, box[2] + right, box[3] + high) for box in boxes
    ])


def filled(ground, body):
    """The Ground of all cells that the body cannot cover where it fits."""
    check_ground(ground)
    check_body(body)
    boxes = boxes_of(ground)
    if boxes == []:
        return ground_from([])
    wide = body[0] - 1
    tall = body[1] - 1
    # No cell outside of this hull is filled, and from no spot outside of the window is one
    # of its cells covered.
    hull = (
        min([box[0] for box in boxes]), min([box[1] for box in boxes]),
        max([box[2] for box in boxes]), max([box[3] for box in boxes]),
    )
    window = grown([hull], wide, tall, 0, 0)
    free = window - grown(boxes, wide, tall, 0, 0)
    return ground_from([hull]) - grown(boxes_of(free), 0, 0, wide, tall)
