"""What bodies reach among boxes, on lines and halfway between them, each upright row being the bits of one number.

Row 2k is upright line k, row 2k + 1 all that is between it and the next one; so are the bits of a row, upwards.
"""

from gapstairs.chambers import with_ends
from gapstairs.fits import box_of


class HalfGrid:
    """The lines of some Drawings for a body and some spots."""

    def __init__(self, drawings, body, spots):
        boxes = [box_of(block, body) for drawing in drawings for block in drawing.blocks]
        self.body = body
        self.uprights = with_ends([box[k] for box in boxes for k in (0, 2)] + [spot[0] for spot in spots])
        self.levels = with_ends([box[k] for box in boxes for k in (1, 3)] + [spot[1] for spot in spots])
        self.row_at = {x: 2 * k for k, x in enumerate(self.uprights)}
        self.bit_at = {y: 2 * k for k, y in enumerate(self.levels)}
        # Every second bit, from the first one on: those of the level lines.
        self.nodes = ((1 << 2 * len(self.levels)) - 1) // 3


def is_node(grid, thing):
    """Whether a value that is surely a spot is on an upright and on a level line."""
    return thing[0] in grid.row_at and thing[1] in grid.bit_at


def no_rows(grid):
    return [0] * (2 * len(grid.uprights) - 1)


def free_rows(grid, drawing):
    """The rows of all places at which the body fits."""
    full = (1 << 2 * len(grid.levels) - 1) - 1
    rows = [full] * (2 * len(grid.uprights) - 1)
    for block in drawing.blocks:
        left, low, right, high = box_of(block, grid.body)
        start = grid.bit_at[low] + 1
        barred = ((1 << grid.bit_at[high] - start) - 1) << start
        for k in range(grid.row_at[left] + 1, grid.row_at[right]):
            rows[k] = rows[k] & (full ^ barred)
    return rows


def rows_of(grid, spots):
    """The rows of just these nodes."""
    rows = no_rows(grid)
    for x, y in spots:
        k = grid.row_at[x]
        rows[k] = rows[k] | 1 << grid.bit_at[y]
    return rows


def shared_rows(one, other):
    """The rows of the places of both."""
    return [row & further for row, further in zip(one, other)]


def runs_of(mask):
    """The list of the runs of bits side by side, each as a number."""
    found = []
    while mask > 0:
        # The sum carries over the lowest run and leaves the others as they are.
        run = mask & (mask ^ mask + (mask & -mask))
        found.append(run)
        mask = mask ^ run
    return found


def filled_row(mask, seed):
    """The runs of the mask that have a bit of the seed."""
    return sum([run for run in runs_of(mask) if run & seed > 0])


def flooded(free, seeds):
    """The rows of all free places that are reached from those of the seeds that are free."""
    reach = [0] * len(free)
    waiting = [(k, seed) for k, seed in enumerate(seeds) if seed > 0]
    while waiting:
        k, seed = waiting.pop()
        more = filled_row(free[k], seed ^ (seed & reach[k]))
        reach[k] = reach[k] | more
        for near in (k - 1, k + 1):
            if more > 0 and 0 <= near < len(free):
                further = more & free[near]
                if further & reach[near] != further:
                    waiting.append((near, further))
    return reach


def nodes_of(grid, rows):
    """The ascending list of the nodes of the rows."""
    found = []
    for k, x in enumerate(grid.uprights):
        row = rows[2 * k]
        found.extend([(x, y) for j, y in enumerate(grid.levels) if row >> 2 * j & 1 == 1])
    return found


def some_node(grid, rows):
    """A node of the rows; None if there is none."""
    for k, x in enumerate(grid.uprights):
        row = rows[2 * k] & grid.nodes
        if row > 0:
            return (x, grid.levels[((row & -row).bit_length() - 1) // 2])
    return None


def node_rows(grid, rows):
    """The rows of just the nodes of the rows."""
    return [row & grid.nodes if k % 2 == 0 else 0 for k, row in enumerate(rows)]


def has_node(grid, rows, spot):
    """Whether the rows have this node."""
    return rows[grid.row_at[spot[0]]] >> grid.bit_at[spot[1]] & 1 == 1
