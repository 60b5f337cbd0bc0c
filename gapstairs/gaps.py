"""The gap grid: the sizes at which what bodies can do may change (point 51)."""

from gapstairs.bodies import check_body
from gapstairs.checks import check_spots
from gapstairs.drawings import check_drawing
from gapstairs.stairs import stairs_of


def sizes_among(ends, starts):
    """The ascending tuple of the numbers from 1 on by which an end lies behind a start."""
    return tuple(sorted(set([end - start for end in ends for start in starts if end > start])))


def grid_of(drawing, spots):
    """The gap grid, for values that are surely such."""
    blocks = drawing.blocks
    return (
        sizes_among([block[0] for block in blocks], [block[2] for block in blocks] + [spot[0] for spot in spots]),
        sizes_among([block[1] for block in blocks], [block[3] for block in blocks] + [spot[1] for spot in spots]),
    )


def top_of(numbers, size):
    """The least of the ascending numbers that is not less than the size; None if there is none."""
    return min([number for number in numbers if number >= size], default=None)


def with_one_above(numbers):
    """The list of the ascending numbers and of one above them, 1 if there are none."""
    return list(numbers) + [max(numbers, default=0) + 1]


def stairs_on(grid, judge):
    """The staircase of all bodies for which judge holds.

    It holds for all bodies of one top or for none, and with a body for each lesser one.
    """
    widths = with_one_above(grid[0])
    heights = with_one_above(grid[1])
    wide_tops = list(grid[0]) + [None]
    high_tops = list(grid[1]) + [None]
    corners = []
    i = 0
    j = len(heights) - 1
    # The way along the edge of the staircase: on where judge holds, down where it does not.
    while i < len(widths) and j >= 0:
        if judge((widths[i], heights[j])):
            corners.append((wide_tops[i], high_tops[j]))
            i += 1
        else:
            j -= 1
    return stairs_of(corners)


def check_grid(drawing, spots):
    check_drawing(drawing)
    check_spots(spots)


def gap_grid(drawing, spots):
    """The pair of the ascending tuples of all gaps along x and along y."""
    check_grid(drawing, spots)
    return grid_of(drawing, spots)


def top(drawing, spots, body):
    """The corner of the least numbers of the grid that are not less than the body's."""
    check_grid(drawing, spots)
    check_body(body)
    grid = grid_of(drawing, spots)
    return (top_of(grid[0], body[0]), top_of(grid[1], body[1]))


def grid_bodies(drawing, spots):
    """The ascending list of one body for each top."""
    check_grid(drawing, spots)
    grid = grid_of(drawing, spots)
    return [(a, b) for a in with_one_above(grid[0]) for b in with_one_above(grid[1])]
