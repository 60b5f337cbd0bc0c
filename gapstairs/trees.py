"""Pieces of webs, and forests that tell a whole web (point 14)."""

from gapstairs.bodies import check_body, is_above
from gapstairs.checks import is_rising
from gapstairs.errors import BadForest
from gapstairs.stairs import count_of, has
from gapstairs.webs import Web, check_web, closure, is_place_pair, paths_for


def pieces(web, body):
    """The ascending list of the tuples of places that are joined by paths whose links hold the body."""
    check_web(web)
    check_body(body)
    found = []
    for place in range(web.places):
        if not any([place in piece for piece in found]):
            found.append(tuple(sorted(list(paths_for(web, place, body)))))
    return found


def heaviest(places, weighted):
    """The rows of a heaviest forest, from a list of (weight, pair)."""
    groups = list(range(places))
    chosen = []
    for weighs, (i, j) in sorted(weighted, key=lambda row: (-row[0], row[1])):
        if groups[i] != groups[j]:
            chosen.append((weighs, (i, j)))
            groups = [groups[j] if group == groups[i] else group for group in groups]
    return chosen


def height_at(stairs, width, most):
    """How high the bodies of this width are that the staircase holds, at most `most`."""
    for wide, high in stairs:
        if not is_above(width, wide):
            return most if is_above(high, most) else high
    return 0


def stops_of_width(web, most):
    """The ascending list of the widths up to most behind which some link holds other heights."""
    finite = [
        corner[0] for stairs in list(web.links.values()) for corner in stairs
        if corner[0] is not None and corner[0] < most
    ]
    return sorted(set(finite)) + [most]


def bonds_of(web, body):
    """The bonds of a web and a body that are surely such."""
    total = 0
    done = 0
    # For one width a link joins all bodies up to its height: so all places less all pieces,
    # summed over the heights, are what a heaviest forest weighs.
    for width in stops_of_width(web, body[0]):
        heights = [(height_at(stairs, width, body[1]), pair) for pair, stairs in web.links.items()]
        total += (width - done) * sum([row[0] for row in heaviest(web.places, heights)])
        done = width
    return total


def bonds(web, body):
    """The sum over all bodies that `body` holds of the places less the pieces."""
    check_web(web)
    check_body(body)
    return bonds_of(web, body)


def far_of(web):
    corners = [corner for stairs in list(web.links.values()) for corner in stairs]
    return (1 + max([corner[0] or 0 for corner in corners], default=0),
            1 + max([corner[1] or 0 for corner in corners], default=0))


def far(web):
    """The body one above all numbers of the links."""
    check_web(web)
    return far_of(web)


def is_forest_of(whole, thing):
    """Whether it is a forest, whole being the closed Web."""
    if not isinstance(thing, tuple) or not all([is_place_pair(pair, whole.places) for pair in thing]):
        return False
    if not is_rising(thing) or not all([pair in whole.links for pair in thing]):
        return False
    return len(heaviest(whole.places, [(1, pair) for pair in thing])) == len(thing)


def is_forest(web, thing):
    """Whether any value is a forest of the web."""
    check_web(web)
    return is_forest_of(closure(web), thing)


def check_forest(whole, forest):
    if not is_forest_of(whole, forest):
        raise BadForest("no forest of the web")


def part_of(whole, forest):
    """The Web of just the links of the closed Web at the pairs of the forest."""
    return Web(whole.places, {pair: whole.links[pair] for pair in forest})


def forest_web(web, forest):
    """The Web that has just the pairs of the forest, linked as in closed(web)."""
    check_web(web)
    whole = closure(web)
    check_forest(whole, forest)
    return part_of(whole, forest)


def weight_of(whole, forest, body):
    return sum([count_of(whole.links[pair], body) for pair in forest])


def weight(web, forest, body):
    """What is counted for the body of the links of the forest, summed."""
    check_web(web)
    whole = closure(web)
    check_forest(whole, forest)
    check_body(body)
    return weight_of(whole, forest, body)


def greatest_forest(whole, body):
    """A forest of the closed Web that weighs most for the body."""
    weighted = [(count_of(stairs, body), pair) for pair, stairs in whole.links.items()]
    return tuple(sorted([row[1] for row in heaviest(whole.places, weighted)]))


def falls_short(web, whole, forest):
    """Whether the forest weighs less than all bonds."""
    body = far_of(web)
    return weight_of(whole, forest, body) < bonds_of(web, body)


def telling_forest(web):
    """A forest that tells the web; None if there is none."""
    check_web(web)
    whole = closure(web)
    forest = greatest_forest(whole, far_of(web))
    return None if falls_short(web, whole, forest) else forest


def is_telling_forest(web, thing):
    """Whether any value is a forest that tells the web."""
    check_web(web)
    whole = closure(web)
    return is_forest_of(whole, thing) and closure(part_of(whole, thing)) == whole


def short_forest(web):
    """A greatest forest that weighs less than the bonds; None if there is none."""
    check_web(web)
    whole = closure(web)
    forest = greatest_forest(whole, far_of(web))
    return forest if falls_short(web, whole, forest) else None


def is_greatest(whole, forest, body):
    """Whether the forest joins each linked pair by pairs for which as much is counted."""
    table = {pair: count_of(stairs, body) for pair, stairs in whole.links.items()}
    for i, j in table:
        heavy = [(1, pair) for pair in forest if table[pair] >= table[(i, j)]]
        # With a pair that they join already, a forest has a pair to spare.
        if len(heaviest(whole.places, heavy + [(0, (i, j))])) > len(heavy):
            return False
    return True


def is_short_forest(web, thing):
    """Whether any value is a short forest of the web."""
    check_web(web)
    whole = closure(web)
    if not is_forest_of(whole, thing) or not is_greatest(whole, thing, far_of(web)):
        return False
    return falls_short(web, whole, thing)
