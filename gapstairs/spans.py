"""What the parities of all rings at several spots span (point 44)."""

from gapstairs.chambers import check_free
from gapstairs.checks import check_spots, has_just_keys, is_list
from gapstairs.fits import check_here
from gapstairs.rings import base_rings, check_ring, is_ring_of, parity_of


def vector_of(drawing, body, ring, spots):
    return tuple([parity_of(drawing, body, ring, spot) for spot in spots])


def added(one, other):
    """Two vectors of one length, added item by item modulo 2."""
    return tuple([(a + b) % 2 for a, b in zip(one, other)])


def vector(drawing, body, ring, spots):
    """The tuple of the parities of the ring at the spots."""
    check_ring(drawing, body, ring)
    check_spots(spots)
    check_free(drawing, body, spots)
    return vector_of(drawing, body, ring, spots)


def exchanged(one, other):
    """The items that are in just one of two lists of different items."""
    return [item for item in one if item not in other] + [item for item in other if item not in one]


def plus(row, other):
    """Two rows (vector, rings that sum to it), added."""
    return (added(row[0], other[0]), exchanged(row[1], other[1]))


def reduced(rows, many):
    """The rows of the reduced basis of the sums of rows (vector, rings); many is the vectors' length."""
    done = []
    left = list(rows)
    for k in range(many):
        with_one = [row for row in left if row[0][k] == 1]
        if with_one:
            head = with_one[0]
            left = [row for row in left if row[0][k] == 0] + [plus(row, head) for row in with_one[1:]]
            done = [plus(row, head) if row[0][k] == 1 else row for row in done] + [head]
    return done


def basis(drawing, body, spots):
    """The reduced basis as a list of rows (vector, rings that sum to it)."""
    rows = [(vector_of(drawing, body, ring, spots), [ring]) for ring in base_rings(drawing, body)]
    return reduced(rows, len(spots))


def check_all(drawing, body, spots):
    check_here(drawing, body)
    check_spots(spots)
    check_free(drawing, body, spots)


def span(drawing, body, spots):
    """The reduced basis of all sums of vectors of rings."""
    check_all(drawing, body, spots)
    return [row[0] for row in basis(drawing, body, spots)]


def showing(drawing, body, spots):
    """The dict from each vector of the span to rings whose vectors sum to it."""
    check_all(drawing, body, spots)
    return {row[0]: row[1] for row in basis(drawing, body, spots)}


def is_sum_for(drawing, body, spots, wanted, thing):
    """Whether it is a list of different rings whose vectors sum to the wanted one."""
    if not is_list(thing) or not all([is_ring_of(drawing, body, ring) for ring in thing]):
        return False
    total = tuple([0 for _ in spots])
    for ring in thing:
        total = added(total, vector_of(drawing, body, ring, spots))
    return total == wanted and len(set(thing)) == len(thing)


def is_showing(drawing, body, spots, thing):
    """Whether any value is a dict from just the vectors of the span to such lists of rings."""
    check_all(drawing, body, spots)
    wanted = [row[0] for row in basis(drawing, body, spots)]
    if not has_just_keys(thing, wanted):
        return False
    return all([is_sum_for(drawing, body, spots, key, thing[key]) for key in wanted])
