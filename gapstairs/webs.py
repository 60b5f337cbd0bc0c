"""Webs of places whose links are staircases (point 12)."""

from gapstairs.checks import has_just_keys, is_index, is_number
from gapstairs.errors import BadLinks, BadPlace, BadPlaces, BadWeb
from gapstairs.stairs import ALL, both, check_stairs, either, has, is_stairs

MOST_PLACES = 12


def is_place_pair(thing, places):
    """Whether it is a pair (i, j) of places, i < j."""
    if not isinstance(thing, tuple) or len(thing) != 2:
        return False
    return is_index(thing[0], places) and is_index(thing[1], places) and thing[0] < thing[1]


def are_links(thing, places):
    """Whether it is a dict from pairs of places to staircases other than ()."""
    if not isinstance(thing, dict):
        return False
    return all([
        is_place_pair(pair, places) and is_stairs(stairs) and stairs != ()
        for pair, stairs in thing.items()
    ])


class Web:
    """Places and the staircases that link them."""

    def __init__(self, places, links):
        if not is_number(places) or not 1 <= places <= MOST_PLACES:
            raise BadPlaces("places is a number from 1 to 12")
        if not are_links(links, places):
            raise BadLinks("links is a dict from pairs of places to staircases")
        self.places = places
        self.links = {pair: links[pair] for pair in sorted(list(links))}

    def __eq__(self, other):
        return isinstance(other, Web) and self.places == other.places and self.links == other.links


def check_web(web):
    if not isinstance(web, Web):
        raise BadWeb("web is a Web")


def check_place(web, place):
    if not is_index(place, web.places):
        raise BadPlace("there is no such place in the web")


def check_places(web, one, other):
    """Refuse the first three parameters of many functions, in their order."""
    check_web(web)
    check_place(web, one)
    check_place(web, other)


def check_unlike_places(web, i, j):
    check_places(web, i, j)
    if i == j:
        raise BadPlace("no place is linked with itself")


def pair_of(i, j):
    return (min(i, j), max(i, j))


def link_of(web, i, j):
    return ALL if i == j else web.links.get(pair_of(i, j), ())


def link(web, i, j):
    """The staircase of the link of two places, ALL for one place."""
    check_places(web, i, j)
    return link_of(web, i, j)


def reach(web, start):
    """A list with the staircase between start and each place."""
    found = [()] * web.places
    found[start] = ALL
    waiting = [start]
    while waiting:
        here = waiting.pop(0)
        for there in range(web.places):
            more = either(found[there], both(found[here], link_of(web, here, there)))
            if more != found[there]:
                found[there] = more
                if there not in waiting:
                    waiting.append(there)
    return found


def between_of(web, one, other):
    return reach(web, one)[other]


def between(web, one, other):
    """The staircase of all bodies that all links of some path hold."""
    check_places(web, one, other)
    return between_of(web, one, other)


def web_of(places, table):
    """The Web of these places with all links of the table that are not ()."""
    return Web(places, {pair: table[pair] for pair in table if table[pair] != ()})


def closure(web):
    """The closed Web of one that is surely a Web."""
    table = {(i, j): link_of(web, i, j) for i in range(web.places) for j in range(i + 1, web.places)}
    for middle in range(web.places):
        for i, j in list(table):
            if middle not in (i, j):
                through = both(table[pair_of(i, middle)], table[pair_of(middle, j)])
                table[(i, j)] = either(table[(i, j)], through)
    return web_of(web.places, table)


def closed(web):
    """The Web in which each two places are linked by their between."""
    check_web(web)
    return closure(web)


def path_to(came, place):
    """The path that ends at the place, by the table from each place to the one ahead of it."""
    path = [place]
    while came[path[-1]] is not None:
        path.append(came[path[-1]])
    return tuple(reversed(path))


def paths_for(web, start, corner):
    """A table from each place that the corner gets to from start, to the place ahead of it."""
    came = {start: None}
    waiting = [start]
    while waiting:
        here = waiting.pop(0)
        for there in range(web.places):
            if there not in came and has(link_of(web, here, there), corner):
                came[there] = here
                waiting.append(there)
    return came


def way_table(web, one, other):
    """A path for each corner of between."""
    check_places(web, one, other)
    return {corner: path_to(paths_for(web, one, corner), other) for corner in between_of(web, one, other)}


def is_path_for(web, one, other, corner, thing):
    """Whether it is a path from one to other all links of which hold the corner."""
    if not isinstance(thing, tuple) or not all([is_index(place, web.places) for place in thing]):
        return False
    if thing == () or thing[0] != one or thing[-1] != other or len(set(thing)) != len(thing):
        return False
    return all([has(link_of(web, thing[k], thing[k + 1]), corner) for k in range(len(thing) - 1)])


def are_paths(web, one, other, stairs, thing):
    """Whether it is a dict from just the corners of stairs to paths that serve them."""
    if not has_just_keys(thing, stairs):
        return False
    return all([is_path_for(web, one, other, corner, thing[corner]) for corner in stairs])


def is_way_table(web, one, other, thing):
    """Whether any value is a way table from one to other."""
    check_places(web, one, other)
    return are_paths(web, one, other, between_of(web, one, other), thing)


def raised(web, i, j, stairs):
    """The Web in which the link of i and j is joined with stairs."""
    check_unlike_places(web, i, j)
    check_stairs(stairs)
    table = {pair: web.links[pair] for pair in web.links}
    table[pair_of(i, j)] = either(link_of(web, i, j), stairs)
    return web_of(web.places, table)


def without(web, i, j):
    """The Web without a link of two places that are surely unlike."""
    gone = pair_of(i, j)
    return Web(web.places, {pair: web.links[pair] for pair in web.links if pair != gone})


def unlinked(web, i, j):
    """The Web without a link of i and j."""
    check_unlike_places(web, i, j)
    return without(web, i, j)
