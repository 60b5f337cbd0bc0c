"""Sides of blocks, which tell whether there is a way (point 43)."""

from gapstairs.chambers import check_free, check_two, clusters_of
from gapstairs.checks import is_number
from gapstairs.errors import BadWay
from gapstairs.fits import check_here
from gapstairs.marks import heart_of, mark_of
from gapstairs.nears import all_near
from gapstairs.rings import ring_through, trunks
from gapstairs.ways import is_way_of


def change(drawing, body, one, other, i, j):
    """1 if the sides of two near blocks have to be unlike, 0 if they have to be equal."""
    return (mark_of(drawing, body, one, i, j) + mark_of(drawing, body, other, i, j)) % 2


def agree(drawing, body, one, other, dealt):
    """Whether the sides agree with the marks of all near blocks."""
    return all([
        (dealt[i] + dealt[j]) % 2 == change(drawing, body, one, other, i, j)
        for i, j in all_near(drawing, body)
    ])


def along_trunk(drawing, body, one, other, trunk):
    """The side of the first block of the trunk if the last one has 0."""
    return sum([change(drawing, body, one, other, i, j) for i, j in zip(trunk, trunk[1:])]) % 2


def links_of(drawing, body, one, other):
    """For each block the list of the pairs of a near block and of what change says of the two."""
    links = [[] for _ in drawing.blocks]
    for i, j in all_near(drawing, body):
        unlike = change(drawing, body, one, other, i, j)
        links[i].append((j, unlike))
        links[j].append((i, unlike))
    return links


def odd_ring(links, out):
    """A ring of blocks that are not in out, around which the changes are odd; None if there is none."""
    dealt = {}
    for root in range(len(links)):
        if root in dealt or root in out:
            continue
        dealt[root] = (0, (root,))
        waiting = [root]
        while waiting:
            here = waiting.pop(0)
            side, trunk = dealt[here]
            for there, unlike in links[here]:
                if there in out:
                    continue
                if there not in dealt:
                    dealt[there] = ((side + unlike) % 2, (there,) + trunk)
                    waiting.append(there)
                elif dealt[there][0] != (side + unlike) % 2:
                    return ring_through(trunk, dealt[there][1])
    return None


def check_ends(drawing, body, one, other):
    check_two(drawing, body, one, other)
    check_free(drawing, body, [one, other])


def sides(drawing, body, one, other):
    """The sides in which the least block of each piece has 0; None if there are none."""
    check_ends(drawing, body, one, other)
    dealt = tuple([along_trunk(drawing, body, one, other, trunk) for trunk in trunks(drawing, body)])
    return dealt if agree(drawing, body, one, other, dealt) else None


def are_sides(drawing, body, one, other, thing):
    """Whether any value is sides for the two spots."""
    check_ends(drawing, body, one, other)
    if not isinstance(thing, tuple) or len(thing) != len(drawing.blocks):
        return False
    if not all([is_number(side) and 0 <= side <= 1 for side in thing]):
        return False
    return agree(drawing, body, one, other, thing)


def passes(centre, one, other):
    """1 if the move from one to other is upright, left of the heart and across its level."""
    if one[0] != other[0] or 2 * one[0] >= centre[0]:
        return 0
    return 1 if 2 * min(one[1], other[1]) < centre[1] <= 2 * max(one[1], other[1]) else 0


def side_along(centre, way):
    """How often, modulo 2, the way passes to the left of the heart."""
    return sum([passes(centre, way[k], way[k + 1]) for k in range(len(way) - 1)]) % 2


def all_along(drawing, body, way):
    """The sides along a way that is surely one."""
    return tuple([side_along(heart_of(drawing, body, i), way) for i in range(len(drawing.blocks))])


def sides_along(drawing, body, way):
    """For each block how often, modulo 2, the way passes to the left of its heart."""
    check_here(drawing, body)
    if not is_way_of(drawing, body, way):
        raise BadWay("no way for this body")
    return all_along(drawing, body, way)


def gone_round(drawing, body, way):
    """The ascending list of the pieces that the closed way goes around an odd number of times."""
    check_here(drawing, body)
    if not is_way_of(drawing, body, way) or way[0] != way[-1]:
        raise BadWay("no closed way for this body")
    dealt = all_along(drawing, body, way)
    return [piece for piece in clusters_of(drawing, body) if dealt[piece[0]] == 1]
