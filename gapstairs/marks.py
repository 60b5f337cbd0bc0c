"""Hearts, meetings and marks of blocks (point 41)."""

from gapstairs.chambers import check_free, shared_box
from gapstairs.drawings import check_index, check_pair
from gapstairs.errors import NotNear
from gapstairs.fits import box_of, check_at, check_here
from gapstairs.nears import are_near


def twice_centre(box):
    return (box[0] + box[2], box[1] + box[3])


def heart_of(drawing, body, i):
    return twice_centre(box_of(drawing.blocks[i], body))


def meeting_of(drawing, body, i, j):
    """The meeting of two blocks that are surely near."""
    return twice_centre(shared_box(box_of(drawing.blocks[i], body), box_of(drawing.blocks[j], body)))


def check_near(drawing, body, i, j):
    """Refuse what are no two near blocks."""
    check_pair(drawing, i, j)
    if not are_near(drawing, body, i, j):
        raise NotNear("the blocks are not near for this body")


def heart(drawing, body, i):
    """Twice the centre of the barred box of block i."""
    check_here(drawing, body)
    check_index(drawing, i)
    return heart_of(drawing, body, i)


def meeting(drawing, body, i, j):
    """Twice the centre of the box that the barred boxes of i and j share."""
    check_here(drawing, body)
    check_near(drawing, body, i, j)
    return meeting_of(drawing, body, i, j)


def half(drawing, body, spot, i, level):
    """1 if the line from the heart of i to a meeting at this level crosses the line to the right."""
    box = box_of(drawing.blocks[i], body)
    if box[0] < spot[0] or not box[1] < spot[1] < box[3]:
        return 0
    middle = box[1] + box[3]
    return 1 if (middle > 2 * spot[1]) != (level > 2 * spot[1]) else 0


def mark_of(drawing, body, spot, i, j):
    """The mark of two near blocks, for values that are surely such."""
    level = meeting_of(drawing, body, i, j)[1]
    return (half(drawing, body, spot, i, level) + half(drawing, body, spot, j, level)) % 2


def mark(drawing, body, spot, i, j):
    """Whether, as 1 or 0, the line between the hearts of i and j crosses that to the right oddly."""
    check_at(drawing, body, spot)
    check_near(drawing, body, i, j)
    check_free(drawing, body, [spot])
    return mark_of(drawing, body, spot, i, j)
