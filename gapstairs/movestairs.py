"""Staircases of the bodies that need few moves, with papers from both sides (points 62 and 63)."""

from gapstairs.checks import has_just_keys
from gapstairs.climbs import by_far, serves
from gapstairs.gaps import grid_of, stairs_on
from gapstairs.moves import are_heights_of, check_most, check_unlike, fewest, heights_for, is_at_most, short
from gapstairs.passages import check_passage, passage_of
from gapstairs.stairs import check_stairs, notches_of


def moves_for(found, drawing, body, one, other):
    """The fewest moves of the body, which are kept in the dict found."""
    if body not in found:
        found[body] = fewest(drawing, body, one, other)
    return found[body]


def stairs_within(found, drawing, one, other, most):
    """move_stairs, for values that are surely such; found keeps the moves of bodies."""
    return stairs_on(
        grid_of(drawing, [one, other]),
        lambda body: is_at_most(moves_for(found, drawing, body, one, other), most),
    )


def stairs_of_moves(drawing, one, other, most):
    return stairs_within({}, drawing, one, other, most)


def check_row(drawing, one, other, most):
    check_passage(drawing, one, other)
    check_unlike(one, other)
    check_most(most)


def move_stairs(drawing, one, other, most):
    """The staircase of all bodies that get from one to other by at most most moves."""
    check_passage(drawing, one, other)
    check_most(most)
    return stairs_of_moves(drawing, one, other, most)


def move_row(drawing, one, other):
    """The list of move_stairs for 0, 1, 2, .. up to that of all bodies that get there at all."""
    check_passage(drawing, one, other)
    found = {}
    last = passage_of(drawing, one, other)
    row = [stairs_within(found, drawing, one, other, 0)]
    while row[-1] != last:
        row.append(stairs_within(found, drawing, one, other, len(row)))
    return row


def plain_ways(drawing, one, other):
    """The lists of stops that hang on no size: the straight one, those of two moves, those by far."""
    return [
        [one, other], [one, (one[0], other[1]), other], [one, (other[0], one[1]), other],
        by_far(drawing, one, other, 0), by_far(drawing, one, other, 1),
    ]


def short_for(drawing, corner, one, other, most):
    """A list of at most most + 1 stops that serves a corner of move_stairs."""
    if None not in corner:
        return short(drawing, corner, one, other)
    return [
        stops for stops in plain_ways(drawing, one, other)
        if serves_in(drawing, corner, one, other, most, stops)
    ][0]


def serves_in(drawing, corner, one, other, most, thing):
    """Whether any value is a list of at most most + 1 stops that serves the corner."""
    return serves(drawing, corner, one, other, thing) and len(thing) <= most + 1


def are_short(drawing, one, other, most, stairs, thing):
    """Whether it is a dict from just the corners of stairs to lists of few stops that serve them."""
    if not has_just_keys(thing, stairs):
        return False
    return all([serves_in(drawing, corner, one, other, most, thing[corner]) for corner in stairs])


def are_all_heights(drawing, one, other, most, stairs, thing):
    """Whether it is a dict from just the notches of stairs to heights for most."""
    wanted = notches_of(stairs)
    if not has_just_keys(thing, wanted):
        return False
    return all([are_heights_of(drawing, notch, one, other, most, thing[notch]) for notch in wanted])


def short_table(drawing, one, other, most):
    """A list of at most most + 1 stops for each corner of move_stairs."""
    check_row(drawing, one, other, most)
    return {
        corner: short_for(drawing, corner, one, other, most)
        for corner in stairs_of_moves(drawing, one, other, most)
    }


def height_table(drawing, one, other, most):
    """Heights for each notch of move_stairs."""
    check_row(drawing, one, other, most)
    return {
        notch: heights_for(drawing, notch, one, other, most)
        for notch in notches_of(stairs_of_moves(drawing, one, other, most))
    }


def is_short_table(drawing, one, other, most, thing):
    """Whether any value is a short table."""
    check_row(drawing, one, other, most)
    return are_short(drawing, one, other, most, stairs_of_moves(drawing, one, other, most), thing)


def is_height_table(drawing, one, other, most, thing):
    """Whether any value is a height table."""
    check_row(drawing, one, other, most)
    return are_all_heights(drawing, one, other, most, stairs_of_moves(drawing, one, other, most), thing)


def are_move_papers(drawing, one, other, most, stairs, ways, tables):
    """Whether the ways show what is held, and the tables that nothing else is."""
    check_row(drawing, one, other, most)
    check_stairs(stairs)
    if not are_short(drawing, one, other, most, stairs, ways):
        return False
    return are_all_heights(drawing, one, other, most, stairs, tables)
