"""What a body covers in its chamber (point 33)."""

from gapstairs.chambers import check_free, free_grid, grid_lines, home, least_spots, outer_spot
from gapstairs.errors import Outdoors
from gapstairs.fits import barred_boxes, check_at, check_here
from gapstairs.grounds import ground_from
from gapstairs.ways import line_meets


def free_fields(drawing, body):
    """The dict from the lower left spot to the upper right one of each field of the grid without a box."""
    uprights, levels = grid_lines(drawing, body)
    boxes = barred_boxes(drawing, body)
    fields = {}
    for left, right in zip(uprights, uprights[1:]):
        for low, high in zip(levels, levels[1:]):
            if not any([line_meets((left, low), (right, high), box) for box in boxes]):
                fields[(left, low)] = (right, high)
    return fields


def swept_of(drawing, body, least):
    """The Ground of the cells that the body covers in the chamber of the least spot `least`."""
    grid = free_grid(drawing, body)
    homes = least_spots(grid)
    fields = free_fields(drawing, body)
    boxes = []
    for spot in grid:
        if homes[spot] == least:
            # Alone, along a line, and about in a field: a chamber is made of these three.
            ends = [spot] + grid[spot] + ([fields[spot]] if spot in fields else [])
            boxes.extend([
                (spot[0], spot[1], end[0] + body[0], end[1] + body[1])
                for end in ends if end >= spot
            ])
    return ground_from(boxes)


def swept(drawing, body, spot):
    """The Ground of the cells that the body covers at some spot of its closed chamber."""
    check_at(drawing, body, spot)
    check_free(drawing, body, [spot])
    least = home(drawing, body, spot)
    if least == outer_spot(drawing, body):
        raise Outdoors("the spot is outdoors")
    return swept_of(drawing, body, least)


def unswept(drawing, body):
    """The Ground of the cells that the body covers at no spot outdoors."""
    check_here(drawing, body)
    blocks = drawing.blocks
    if blocks == ():
        return ground_from([])
    hull = (
        min([block[0] for block in blocks]), min([block[1] for block in blocks]),
        max([block[2] for block in blocks]), max([block[3] for block in blocks]),
    )
    # The grid goes beyond all spots from which a cell of the hull is covered.
    return ground_from([hull]) - swept_of(drawing, body, outer_spot(drawing, body))
