"""Cuts of webs, and links that can be done without (point 13)."""

from gapstairs.checks import has_just_keys, is_lot
from gapstairs.errors import BadLot, BadOther
from gapstairs.stairs import either, has, is_stairs, notches_of, within
from gapstairs.webs import Web, are_paths, between_of, check_places, check_web, paths_for, without


def across_of(web, lot):
    """What some link from the lot to outside holds, for values that are surely such."""
    found = ()
    for i, j in web.links:
        if (i in lot) != (j in lot):
            found = either(found, web.links[(i, j)])
    return found


def across(web, lot):
    """The staircase of what some link from a place of the lot to one outside holds."""
    check_web(web)
    if not is_lot(lot, web.places):
        raise BadLot("a lot is an ascending tuple of different places")
    return across_of(web, lot)


def check_ends(web, one, other):
    check_places(web, one, other)
    if one == other:
        raise BadOther("the two places are one")


def cut_table(web, one, other):
    """A lot for each notch of between, with one and not other, across which the notch does not get."""
    check_ends(web, one, other)
    stairs = between_of(web, one, other)
    return {notch: tuple(sorted(list(paths_for(web, one, notch)))) for notch in notches_of(stairs)}


def is_cut_for(web, one, other, notch, thing):
    """Whether it is a lot with one and not other whose across does not hold the notch."""
    if not is_lot(thing, web.places) or one not in thing or other in thing:
        return False
    return not has(across_of(web, thing), notch)


def are_cuts(web, one, other, stairs, thing):
    """Whether it is a dict from just the notches of stairs to lots that bar them."""
    wanted = notches_of(stairs)
    if not has_just_keys(thing, wanted):
        return False
    return all([is_cut_for(web, one, other, notch, thing[notch]) for notch in wanted])


def is_cut_table(web, one, other, thing):
    """Whether any value is a cut table for one and other."""
    check_ends(web, one, other)
    return are_cuts(web, one, other, between_of(web, one, other), thing)


def are_papers(web, one, other, stairs, ways, cuts):
    """Whether the ways show that all of stairs gets through, and the cuts that nothing else does."""
    check_ends(web, one, other)
    if not is_stairs(stairs):
        return False
    return are_paths(web, one, other, stairs, ways) and are_cuts(web, one, other, stairs, cuts)


def is_needless(web, pair):
    """Whether closed stays as it is without the link of the pair."""
    i, j = pair
    return within(web.links[pair], between_of(without(web, i, j), i, j))


def needless(web):
    """The ascending list of the pairs whose link can be taken out alone."""
    check_web(web)
    return [pair for pair in web.links if is_needless(web, pair)]


def trimmed(web):
    """The Web that is left if each link in turn is taken out unless closed would change."""
    check_web(web)
    left = Web(web.places, web.links)
    for pair in web.links:
        if is_needless(left, pair):
            left = without(left, pair[0], pair[1])
    return left
