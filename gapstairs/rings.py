"""Rings of near blocks, and the spots that they part (point 42)."""

from gapstairs.chambers import check_free, check_two
from gapstairs.checks import check_spot, is_index
from gapstairs.drawings import check_drawing
from gapstairs.errors import BadRing
from gapstairs.fits import check_here
from gapstairs.marks import mark_of
from gapstairs.nears import all_near, are_near, least_near


def is_round(drawing, thing):
    """Whether any value is a ring for some body."""
    if not isinstance(thing, tuple) or len(thing) < 3:
        return False
    if not all([is_index(i, len(drawing.blocks)) for i in thing]) or len(set(thing)) != len(thing):
        return False
    return thing[0] == min(thing) and thing[1] < thing[-1]


def pairs_round(ring):
    """The pairs of neighbours all around."""
    return [(ring[k - 1], ring[k]) for k in range(len(ring))]


def is_ring_of(drawing, body, thing):
    """Whether any value is a ring, drawing and body surely being such."""
    return is_round(drawing, thing) and all([are_near(drawing, body, i, j) for i, j in pairs_round(thing)])


def is_ring(drawing, body, thing):
    """Whether any value is a ring for the body."""
    check_here(drawing, body)
    return is_ring_of(drawing, body, thing)


def ring_from(drawing, ring):
    """The least body for which it is a ring."""
    check_drawing(drawing)
    if not is_round(drawing, ring):
        raise BadRing("a ring for no body")
    least = [least_near(drawing, i, j) for i, j in pairs_round(ring)]
    return (max([body[0] for body in least]), max([body[1] for body in least]))


def parity_of(drawing, body, ring, spot):
    """The sum of the marks around a ring, modulo 2, for values that are surely such."""
    return sum([mark_of(drawing, body, spot, i, j) for i, j in pairs_round(ring)]) % 2


def check_ring(drawing, body, ring):
    check_here(drawing, body)
    if not is_ring_of(drawing, body, ring):
        raise BadRing("no ring for this body")


def parity(drawing, body, ring, spot):
    """1 if the ring goes around the spot, 0 if it does not."""
    check_ring(drawing, body, ring)
    check_spot(spot)
    check_free(drawing, body, [spot])
    return parity_of(drawing, body, ring, spot)


def neighbours(drawing, body):
    """The list of the ascending lists of the blocks near to each block."""
    table = [[] for _ in drawing.blocks]
    for i, j in all_near(drawing, body):
        table[i].append(j)
        table[j].append(i)
    return table


def trunks(drawing, body):
    """A list of the tuples of blocks that lead from each block to the least one of its piece."""
    table = neighbours(drawing, body)
    found = {}
    for root in range(len(table)):
        if root not in found:
            found[root] = (root,)
            waiting = [root]
            while waiting:
                here = waiting.pop(0)
                for there in table[here]:
                    if there not in found:
                        found[there] = (there,) + found[here]
                        waiting.append(there)
    return [found[i] for i in range(len(table))]


def ring_of_walk(walk):
    """The ring that goes all around a list of different blocks."""
    at = walk.index(min(walk))
    turned = walk[at:] + walk[:at]
    if turned[1] > turned[-1]:
        turned = turned[:1] + list(reversed(turned[1:]))
    return tuple(turned)


def ring_through(one, other):
    """The ring of two trunks whose first blocks are near, cut off where they come together."""
    shared = [i for i in one if i in other]
    first = list(one[:one.index(shared[0]) + 1])
    second = list(other[:other.index(shared[0])])
    return ring_of_walk(first + list(reversed(second)))


def base_rings(drawing, body):
    """The list of rings, one for each near pair off the trunks, of which all rings are sums."""
    ways = trunks(drawing, body)
    return [
        ring_through(ways[i], ways[j]) for i, j in all_near(drawing, body)
        if ways[i][1:2] != (j,) and ways[j][1:2] != (i,)
    ]


def parts(drawing, body, ring, one, other):
    """Whether the ring parts two spots, for values that are surely such."""
    return parity_of(drawing, body, ring, one) != parity_of(drawing, body, ring, other)


def find_parting(drawing, body, one, other):
    """A ring that parts two spots that fit; None if there is none."""
    for ring in base_rings(drawing, body):
        if parts(drawing, body, ring, one, other):
            return ring
    return None


def parting_ring(drawing, body, one, other):
    """A ring that parts the two spots; None if there is none."""
    check_two(drawing, body, one, other)
    check_free(drawing, body, [one, other])
    return find_parting(drawing, body, one, other)


def is_parting_of(drawing, body, one, other, thing):
    return is_ring_of(drawing, body, thing) and parts(drawing, body, thing, one, other)


def is_parting(drawing, body, one, other, thing):
    """Whether any value is a ring that parts the two spots."""
    check_two(drawing, body, one, other)
    check_free(drawing, body, [one, other])
    return is_parting_of(drawing, body, one, other, thing)
