"""Shortest rings, and sheet heights that show that there are no shorter ones (point 70)."""

from gapstairs.chambers import check_free, check_two, path_back
from gapstairs.checks import is_index, is_number
from gapstairs.errors import BadMany
from gapstairs.rings import ring_of_walk
from gapstairs.sides import links_of


def lifted(links, i):
    """The dict from each pair (j, sheet) that (i, 0) gets to, fewest blocks first, to the pair ahead of it."""
    came = {(i, 0): None}
    waiting = [(i, 0)]
    k = 0
    while k < len(waiting):
        here, sheet = waiting[k]
        k += 1
        for there, unlike in links[here]:
            pair = (there, (sheet + unlike) % 2)
            if pair not in came:
                came[pair] = (here, sheet)
                waiting.append(pair)
    return came


def shortest(links):
    """A ring of as few blocks as possible around which the changes are odd; None if there is none."""
    best = None
    for i in range(len(links)):
        came = lifted(links, i)
        if (i, 1) in came:
            walk = [pair[0] for pair in path_back(came, (i, 1))][1:]
            if best is None or len(walk) < len(best):
                best = walk
    return None if best is None else ring_of_walk(best)


def shortest_parting(drawing, body, one, other):
    """shortest_ring, for values that are surely such and spots that fit."""
    return shortest(links_of(drawing, body, one, other))


def has_ring_of(drawing, body, one, other, many):
    """Whether a ring of at most many blocks parts two spots that fit."""
    ring = shortest_parting(drawing, body, one, other)
    return ring is not None and len(ring) <= many


def heights_over(links, i, many):
    """The least heights of all pairs (j, sheet) above (i, 0), many + 1 for those that it does not get to."""
    came = lifted(links, i)
    found = {}
    for pair in came:
        ahead = came[pair]
        found[pair] = 0 if ahead is None else found[ahead] + 1
    return {(j, sheet): found.get((j, sheet), many + 1) for j in range(len(links)) for sheet in (0, 1)}


def sheets_for(drawing, body, one, other, many):
    """Sheet heights that hold if no ring of at most many blocks parts the spots."""
    links = links_of(drawing, body, one, other)
    return {i: heights_over(links, i, many) for i in range(len(links))}


def is_sheet_pair(thing, many):
    """Whether it is a pair of an index and 0 or 1."""
    if not isinstance(thing, tuple) or len(thing) != 2:
        return False
    return is_index(thing[0], many) and is_index(thing[1], 2)


def are_over(links, i, many, thing):
    """Whether it is a dict of heights that fit above (i, 0)."""
    blocks = len(links)
    if not isinstance(thing, dict) or len(thing) != 2 * blocks:
        return False
    if not all([is_sheet_pair(pair, blocks) for pair in thing]):
        return False
    if not all([is_number(height) and height >= 0 for height in list(thing.values())]):
        return False
    if thing[(i, 0)] != 0 or thing[(i, 1)] <= many:
        return False
    return all([
        abs(thing[(j, sheet)] - thing[(k, (sheet + unlike) % 2)]) <= 1
        for j in range(blocks) for k, unlike in links[j] for sheet in (0, 1)
    ])


def are_sheets_of(drawing, body, one, other, many, thing):
    """Whether any value is sheet heights for many, the other parameters surely being such."""
    links = links_of(drawing, body, one, other)
    if not isinstance(thing, dict) or len(thing) != len(links):
        return False
    if not all([is_index(i, len(links)) for i in thing]):
        return False
    return all([are_over(links, i, many, thing[i]) for i in range(len(links))])


def check_many(many):
    if not is_number(many) or many < 0:
        raise BadMany("many is a number from 0 on")


def check_around(drawing, body, one, other):
    check_two(drawing, body, one, other)
    check_free(drawing, body, [one, other])


def check_sheets(drawing, body, one, other, many):
    check_two(drawing, body, one, other)
    check_many(many)
    check_free(drawing, body, [one, other])


def shortest_ring(drawing, body, one, other):
    """A ring of as few blocks as possible that parts the spots; None if there is none."""
    check_around(drawing, body, one, other)
    return shortest_parting(drawing, body, one, other)


def fewest_around(drawing, body, one, other):
    """How many blocks a shortest ring has that parts the spots; None if there is none."""
    check_around(drawing, body, one, other)
    ring = shortest_parting(drawing, body, one, other)
    return None if ring is None else len(ring)


def sheet_heights(drawing, body, one, other, many):
    """Sheet heights for many; None if some ring of at most many blocks parts the spots."""
    check_sheets(drawing, body, one, other, many)
    if has_ring_of(drawing, body, one, other, many):
        return None
    return sheets_for(drawing, body, one, other, many)


def are_sheet_heights(drawing, body, one, other, many, thing):
    """Whether any value is sheet heights for many."""
    check_sheets(drawing, body, one, other, many)
    return are_sheets_of(drawing, body, one, other, many, thing)
