"""Chambers: spots that a body gets to from one another (point 32)."""

from gapstairs.checks import check_spot, check_spots
from gapstairs.errors import NotFree
from gapstairs.fits import barred_boxes, check_at, check_here, is_free, lies_in
from gapstairs.ways import is_line_free, straight


def with_ends(numbers):
    """The ascending list of the different numbers, with one more on each side."""
    lines = sorted(set(numbers)) or [0]
    return [lines[0] - 1] + lines + [lines[-1] + 1]


def grid_lines(drawing, body):
    """The upright and the level lines on which bodies find all their ways."""
    boxes = barred_boxes(drawing, body)
    uprights = with_ends([x for box in boxes for x in (box[0], box[2])])
    levels = with_ends([y for box in boxes for y in (box[1], box[3])])
    return (uprights, levels)


def free_grid(drawing, body):
    """The dict from each spot of the grid at which the body fits, ascending, to those next to it."""
    uprights, levels = grid_lines(drawing, body)
    boxes = barred_boxes(drawing, body)
    grid = {
        (x, y): [] for x in uprights for y in levels
        if not any([lies_in((x, y), box) for box in boxes])
    }
    pairs = [((x, low), (x, high)) for x in uprights for low, high in zip(levels, levels[1:])]
    pairs.extend([((left, y), (right, y)) for left, right in zip(uprights, uprights[1:]) for y in levels])
    for one, other in pairs:
        if is_line_free(boxes, one, other):
            grid[one].append(other)
            grid[other].append(one)
    return grid


def spread(grid, start):
    """The dict from each spot of the grid that start gets to, to the one ahead of it."""
    came = {start: None}
    waiting = [start]
    k = 0
    while k < len(waiting):
        here = waiting[k]
        k += 1
        for there in grid[here]:
            if there not in came:
                came[there] = here
                waiting.append(there)
    return came


def least_spots(grid):
    """The dict from each spot of the grid to the least one of its chamber."""
    least = {}
    for spot in grid:
        if spot not in least:
            for there in spread(grid, spot):
                least[there] = spot
    return least


def line_below(lines, number):
    """The greatest line that is not above the number; the first one if there is none."""
    return max([line for line in lines if line <= number], default=lines[0])


def grid_spot(drawing, body, spot):
    """The spot of the grid to which a body that fits at the spot gets by lead."""
    uprights, levels = grid_lines(drawing, body)
    return (line_below(uprights, spot[0]), line_below(levels, spot[1]))


def lead(drawing, body, spot):
    """Three spots, perhaps equal, from the spot to the grid: no box ends between two lines."""
    x, y = grid_spot(drawing, body, spot)
    return [spot, (x, spot[1]), (x, y)]


def outer_spot(drawing, body):
    """The least spot of the grid, which is outdoors."""
    uprights, levels = grid_lines(drawing, body)
    return (uprights[0], levels[0])


def neat(stops):
    """The list of stops without such as are equal to the one ahead, or go straight on."""
    way = [stop for k, stop in enumerate(stops) if k == 0 or stop != stops[k - 1]]
    return straight(way)


def path_back(came, spot):
    """The list from where came began to the spot."""
    path = [spot]
    while came[path[-1]] is not None:
        path.append(came[path[-1]])
    return list(reversed(path))


def check_two(drawing, body, one, other):
    check_at(drawing, body, one)
    check_spot(other)


def check_free(drawing, body, spots):
    """Refuse spots at which the body does not fit."""
    if not all([is_free(drawing, body, spot) for spot in spots]):
        raise NotFree("the body does not fit at the spot")


def find_way(drawing, body, one, other):
    """A way from one to other; None if there is none."""
    if not is_free(drawing, body, one) or not is_free(drawing, body, other):
        return None
    if one == other:
        return [one]
    came = spread(free_grid(drawing, body), grid_spot(drawing, body, one))
    there = grid_spot(drawing, body, other)
    if there not in came:
        return None
    ahead = lead(drawing, body, one)
    behind = list(reversed(lead(drawing, body, other)))
    return neat(ahead + path_back(came, there) + behind)


def same_chamber(drawing, body, one, other):
    """Whether there is a way from one to other."""
    check_two(drawing, body, one, other)
    return find_way(drawing, body, one, other) is not None


def way_between(drawing, body, one, other):
    """A way from one to other; None if there is none."""
    check_two(drawing, body, one, other)
    return find_way(drawing, body, one, other)


def chambers(drawing, body, spots):
    """The ascending list of the tuples of the indexes of spots that share a chamber."""
    check_here(drawing, body)
    check_spots(spots)
    least = least_spots(free_grid(drawing, body))
    groups = {}
    for k, spot in enumerate(spots):
        if is_free(drawing, body, spot):
            groups.setdefault(least[grid_spot(drawing, body, spot)], []).append(k)
    return sorted([tuple(group) for group in list(groups.values())])


def home(drawing, body, spot):
    """The least spot of the grid in the chamber of a spot that fits."""
    return min(list(spread(free_grid(drawing, body), grid_spot(drawing, body, spot))))


def is_outdoors(drawing, body, spot):
    """Whether the spot shares a chamber with those far away."""
    check_at(drawing, body, spot)
    return is_free(drawing, body, spot) and home(drawing, body, spot) == outer_spot(drawing, body)


def first_spot(drawing, body, spot):
    """The least spot of a closed chamber; None for a spot outdoors."""
    check_at(drawing, body, spot)
    check_free(drawing, body, [spot])
    least = home(drawing, body, spot)
    return None if least == outer_spot(drawing, body) else least


def closed_chambers(drawing, body):
    """The ascending list of the first spots of all chambers that are not outdoors."""
    check_here(drawing, body)
    least = least_spots(free_grid(drawing, body))
    outer = outer_spot(drawing, body)
    return sorted(set([spot for spot in list(least.values()) if spot != outer]))


def shared_box(one, other):
    """The box that two boxes share; it is empty unless is_box."""
    return (max(one[0], other[0]), max(one[1], other[1]), min(one[2], other[2]), min(one[3], other[3]))


def is_open_box(box):
    return box[0] < box[2] and box[1] < box[3]


def groups_of(many, pairs):
    """The ascending list of the tuples of the numbers to many - 1 that chains of the pairs join."""
    groups = list(range(many))
    for i, j in pairs:
        groups = [groups[i] if group == groups[j] else group for group in groups]
    found = [tuple([k for k in range(many) if groups[k] == group]) for group in sorted(set(groups))]
    return sorted(found)


def clusters_of(drawing, body):
    boxes = barred_boxes(drawing, body)
    many = len(boxes)
    return groups_of(many, [
        (i, j) for i in range(many) for j in range(i + 1, many)
        if is_open_box(shared_box(boxes[i], boxes[j]))
    ])


def clusters(drawing, body):
    """The ascending list of the tuples of blocks that chains of boxes join."""
    check_here(drawing, body)
    return clusters_of(drawing, body)


def signed_from(boxes, start, shared):
    """The signed number of the lots of boxes from start on that share a place with the shared box."""
    total = 0
    for k in range(start, len(boxes)):
        smaller = boxes[k] if shared is None else shared_box(shared, boxes[k])
        if is_open_box(smaller):
            # A lot with one box more is counted with the opposite sign.
            total += 1 - signed_from(boxes, k + 1, smaller)
    return total


def signed_lots(drawing, body):
    """How many lots of an odd number of boxes share a place, less how many of an even number."""
    check_here(drawing, body)
    return signed_from(barred_boxes(drawing, body), 0, None)
