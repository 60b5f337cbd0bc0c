"""Bodies that live through drawings that change, one season after another (point 110)."""

from gapstairs.bodies import check_body
from gapstairs.chambers import find_way, neat
from gapstairs.checks import check_spot, has_just_keys, is_list, is_spot_list
from gapstairs.climbs import by_far
from gapstairs.drawings import Drawing
from gapstairs.errors import BadCalendar
from gapstairs.gaps import sizes_among, stairs_on
from gapstairs.halfgrids import (
    HalfGrid, flooded, free_rows, has_node, is_node, node_rows, nodes_of, rows_of, shared_rows, some_node,
)
from gapstairs.rooms import stairs_along
from gapstairs.stairs import has, is_stairs, notches_of
from gapstairs.ways import is_stop_list, is_way_of

MOST_SEASONS = 40


def is_calendar(thing):
    """Whether any value is a list of one to forty Drawings."""
    if not is_list(thing) or not 1 <= len(thing) <= MOST_SEASONS:
        return False
    return all([isinstance(drawing, Drawing) for drawing in thing])


def check_calendar(calendar):
    if not is_calendar(calendar):
        raise BadCalendar("a calendar is a list of one to forty Drawings")


def check_seasons(calendar, one, other):
    check_calendar(calendar)
    check_spot(one)
    check_spot(other)


def check_lives(calendar, body, one, other):
    """Refuse the parameters of many functions, in their order."""
    check_calendar(calendar)
    check_body(body)
    check_spot(one)
    check_spot(other)


class Seasons:
    """All that a body reaches in each season, from one on."""

    def __init__(self, calendar, body, one, other):
        grid = HalfGrid(calendar, body, [one, other])
        self.grid = grid
        self.other = other
        self.free = [free_rows(grid, drawing) for drawing in calendar]
        reached = rows_of(grid, [one])
        found = []
        for free in self.free:
            reached = flooded(free, shared_rows(reached, free))
            found.append(reached)
        self.reached = found


def gets_through(seasons):
    """Whether other is reached in the end."""
    return has_node(seasons.grid, seasons.reached[-1], seasons.other)


def lives_through(calendar, body, one, other):
    """lives, for values that are surely such."""
    return gets_through(Seasons(calendar, body, one, other))


def meetings(seasons):
    """The list of a spot for each season in which it can be gone from, the last one being other; it is reached."""
    grid = seasons.grid
    found = [seasons.other]
    for k in range(len(seasons.free) - 1, 0, -1):
        here = shared_rows(flooded(seasons.free[k], rows_of(grid, [found[-1]])), seasons.reached[k - 1])
        # Where it can, it waits.
        found.append(found[-1] if has_node(grid, here, found[-1]) else some_node(grid, here))
    return list(reversed(found))


def passage_for(calendar, body, one, other):
    """passage, for values that are surely such."""
    seasons = Seasons(calendar, body, one, other)
    if not gets_through(seasons):
        return None
    ends = meetings(seasons)
    starts = [one] + ends[:-1]
    return [find_way(drawing, body, start, end) for drawing, start, end in zip(calendar, starts, ends)]


def are_joined(one, other, ways):
    """Whether lists of spots lead from one to other, each from where the one ahead ends."""
    if ways[0][0] != one or ways[-1][-1] != other:
        return False
    return all([ways[k][-1] == ways[k + 1][0] for k in range(len(ways) - 1)])


def is_passage_of(calendar, body, one, other, thing):
    """is_passage, for values other than thing that are surely such."""
    if not is_list(thing) or len(thing) != len(calendar):
        return False
    if not all([is_way_of(drawing, body, way) for drawing, way in zip(calendar, thing)]):
        return False
    return are_joined(one, other, thing)


def tide_of(calendar, body, one, other):
    """tide, for values that are surely such."""
    seasons = Seasons(calendar, body, one, other)
    if gets_through(seasons):
        return None
    return [nodes_of(seasons.grid, rows) for rows in seasons.reached]


def are_nodes(grid, thing):
    """Whether any value is a list of different nodes."""
    return is_spot_list(thing) and len(set(thing)) == len(thing) and all([is_node(grid, spot) for spot in thing])


def is_tide_of(calendar, body, one, other, thing):
    """is_tide, for values other than thing that are surely such."""
    grid = HalfGrid(calendar, body, [one, other])
    if not is_list(thing) or len(thing) != len(calendar) or not all([are_nodes(grid, nodes) for nodes in thing]):
        return False
    before = rows_of(grid, [one])
    for drawing, nodes in zip(calendar, thing):
        free = free_rows(grid, drawing)
        rows = rows_of(grid, nodes)
        # What comes from the season ahead is there; all fits, and nothing next to what is there is missing.
        ahead = shared_rows(before, free)
        if shared_rows(ahead, rows) != ahead or node_rows(grid, flooded(free, rows)) != rows:
            return False
        before = rows
    return not has_node(grid, before, other)


def stairs_over(calendar, one, other):
    """stairs_through, for values that are surely such."""
    blocks = sorted(set([block for drawing in calendar for block in drawing.blocks]))
    grid = tuple([
        sizes_among([block[k] for block in blocks], [block[k + 2] for block in blocks] + [one[k], other[k]])
        for k in (0, 1)
    ])
    return stairs_on(grid, lambda body: lives_through(calendar, body, one, other))


def far_passage(calendar, one, other, axis):
    """A passage by way of the numbers behind all blocks of the calendar, right for axis 0, up for 1."""
    if len(calendar) == 1:
        return [by_far(calendar[0], one, other, axis)]
    ends = [block[2 + axis] for drawing in calendar for block in drawing.blocks]
    far = max(ends + [one[axis], other[axis]])
    turn = (far, one[1]) if axis == 0 else (one[0], far)
    meeting = (far, other[1]) if axis == 0 else (other[0], far)
    waits = [[meeting] for _ in calendar[2:]]
    return [neat([one, turn, meeting])] + waits + [neat([meeting, other])]


def passage_serving(calendar, corner, one, other):
    """A list that serves a corner of stairs_through."""
    # Where all widths fit there is nothing to the right, where all heights fit nothing above.
    if corner[0] is None:
        return far_passage(calendar, one, other, 0)
    if corner[1] is None:
        return far_passage(calendar, one, other, 1)
    return passage_for(calendar, corner, one, other)


def is_serving(calendar, corner, one, other, thing):
    """Whether any value is a list that serves the corner."""
    if not is_list(thing) or len(thing) != len(calendar) or not all([is_stop_list(way) for way in thing]):
        return False
    if not all([has(stairs_along(drawing, way), corner) for drawing, way in zip(calendar, thing)]):
        return False
    return are_joined(one, other, thing)


def lives(calendar, body, one, other):
    """Whether the body lives through the calendar from one to other."""
    check_lives(calendar, body, one, other)
    return lives_through(calendar, body, one, other)


def passage(calendar, body, one, other):
    """A way for each Drawing, by which the body lives through; None if it does not."""
    check_lives(calendar, body, one, other)
    return passage_for(calendar, body, one, other)


def is_passage(calendar, body, one, other, thing):
    """Whether any value is a passage."""
    check_lives(calendar, body, one, other)
    return is_passage_of(calendar, body, one, other, thing)


def tide(calendar, body, one, other):
    """The tide with the fewest nodes; None if the body lives through."""
    check_lives(calendar, body, one, other)
    return tide_of(calendar, body, one, other)


def is_tide(calendar, body, one, other, thing):
    """Whether any value is a tide."""
    check_lives(calendar, body, one, other)
    return is_tide_of(calendar, body, one, other, thing)


def stairs_through(calendar, one, other):
    """The staircase of all bodies that live through."""
    check_seasons(calendar, one, other)
    return stairs_over(calendar, one, other)


def through_table(calendar, one, other):
    """A list that serves it for each corner of stairs_through."""
    check_seasons(calendar, one, other)
    return {corner: passage_serving(calendar, corner, one, other) for corner in stairs_over(calendar, one, other)}


def tide_table(calendar, one, other):
    """A tide for each notch of stairs_through."""
    check_seasons(calendar, one, other)
    return {
        notch: tide_of(calendar, notch, one, other) for notch in notches_of(stairs_over(calendar, one, other))
    }


def are_season_papers(calendar, one, other, stairs, passages, tides):
    """Whether passages and tides show that just the bodies that stairs holds live through."""
    check_seasons(calendar, one, other)
    if not is_stairs(stairs) or not has_just_keys(passages, stairs):
        return False
    notches = notches_of(stairs)
    if not has_just_keys(tides, notches):
        return False
    if not all([is_serving(calendar, corner, one, other, passages[corner]) for corner in stairs]):
        return False
    return all([is_tide_of(calendar, notch, one, other, tides[notch]) for notch in notches])
