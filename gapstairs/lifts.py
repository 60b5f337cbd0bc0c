"""Who gets from place to place of a house, with itineraries and fences (point 101)."""

from gapstairs.bars import bar_for, is_bar_of
from gapstairs.bodies import check_body, check_corner
from gapstairs.checks import has_just_keys, is_index, is_list
from gapstairs.climbs import climb_for
from gapstairs.errors import BadOther, BadPlaces
from gapstairs.fits import box_of, lies_in
from gapstairs.floors import check_house, check_house_ends, is_place_in, room_in
from gapstairs.passages import passage_of
from gapstairs.rooms import stairs_along
from gapstairs.stairs import both, either, has, is_stairs, notches_of
from gapstairs.ways import is_stop_list
from gapstairs.webs import between_of, path_to, paths_for, web_of

MOST_ASKED = 4


def stations_of(house, places):
    """stations, for values that are surely such."""
    ends = [end for lift in house.lifts for end in lift[:2]]
    return sorted(set(list(places) + ends))


def ride_stairs(house, lift):
    """The staircase of the bodies that ride the lift."""
    return both(lift[2], both(room_in(house, lift[0]), room_in(house, lift[1])))


def joins(lift, here, there):
    """Whether it is a lift of the two places."""
    return lift[:2] in ((here, there), (there, here))


def straight_stairs(house, here, there):
    """The staircase of the bodies that are joined straight between two different places."""
    found = passage_of(house.floors[here[0]], here[1], there[1]) if here[0] == there[0] else ()
    for lift in house.lifts:
        if joins(lift, here, there):
            found = either(found, ride_stairs(house, lift))
    return found


def web_in(house, known):
    """The Web of places that are surely different ones of the house."""
    many = len(known)
    return web_of(many, {
        (i, j): straight_stairs(house, known[i], known[j]) for i in range(many) for j in range(i + 1, many)
    })


def stairs_in(house, one, other):
    """house_stairs, for values that are surely such."""
    if one == other:
        return room_in(house, one)
    known = stations_of(house, [one, other])
    return between_of(web_in(house, known), known.index(one), known.index(other))


def leg_for(house, corner, here, there):
    """A leg from here to there for all bodies that the corner holds; some surely leads there."""
    if here[0] == there[0]:
        drawing = house.floors[here[0]]
        if has(passage_of(drawing, here[1], there[1]), corner):
            return ("walk", climb_for(drawing, corner, here[1], there[1]))
    rides = [
        n for n, lift in enumerate(house.lifts)
        if joins(lift, here, there) and has(ride_stairs(house, lift), corner)
    ]
    return ("ride", rides[0])


def legs_for(house, known, web, ends, corner):
    """An itinerary of a corner that house_stairs surely holds, by the web of the known stations."""
    path = path_to(paths_for(web, ends[0], corner), ends[1])
    return [leg_for(house, corner, known[path[k]], known[path[k + 1]]) for k in range(len(path) - 1)]


def behind_leg(house, corner, here, thing):
    """The place to which any value leads as a leg of the corner from here; None if it is none."""
    if not isinstance(thing, tuple) or len(thing) != 2:
        return None
    if thing[0] == "walk":
        if not is_stop_list(thing[1]) or thing[1][0] != here[1]:
            return None
        serves = has(stairs_along(house.floors[here[0]], thing[1]), corner)
        return (here[0], thing[1][-1]) if serves else None
    if thing[0] != "ride" or not is_index(thing[1], len(house.lifts)):
        return None
    lift = house.lifts[thing[1]]
    if here not in lift[:2] or not has(ride_stairs(house, lift), corner):
        return None
    return lift[1] if here == lift[0] else lift[0]


def is_itinerary_of(house, corner, one, other, thing):
    """is_itinerary, for values other than thing that are surely such."""
    if not is_list(thing) or not has(room_in(house, one), corner):
        return False
    here = one
    for leg in thing:
        here = behind_leg(house, corner, here, leg)
        if here is None:
            return False
    return here == other


def are_itineraries_of(house, one, other, stairs, thing):
    """Whether any value is a dict from just the corners of stairs to itineraries of them."""
    if not has_just_keys(thing, stairs):
        return False
    return all([is_itinerary_of(house, corner, one, other, thing[corner]) for corner in stairs])


def bars_across(lot, known):
    """The pairs of stations of one floor, the first one in the lot, the second one not."""
    return [(here, there) for here in lot for there in known if there not in lot and here[0] == there[0]]


def rides_across(house, lot):
    """The numbers of the lifts of which one place is in the lot and the other is not."""
    return [n for n, lift in enumerate(house.lifts) if (lift[0] in lot) != (lift[1] in lot)]


def stuck_for(house, body, n):
    """What shows that the body does not ride lift n."""
    lift = house.lifts[n]
    if not has(lift[2], body):
        return ("stairs",)
    bars = [
        ("block", k, i) for k in range(2) for i, block in enumerate(house.floors[lift[k][0]].blocks)
        if lies_in(lift[k][1], box_of(block, body))
    ]
    return bars[0]


def is_stuck(house, body, n, thing):
    """Whether any value shows that the body does not ride lift n."""
    lift = house.lifts[n]
    if not isinstance(thing, tuple) or len(thing) == 0:
        return False
    if thing == ("stairs",):
        return not has(lift[2], body)
    if len(thing) != 3 or thing[0] != "block" or not is_index(thing[1], 2):
        return False
    floor, spot = lift[thing[1]]
    blocks = house.floors[floor].blocks
    return is_index(thing[2], len(blocks)) and lies_in(spot, box_of(blocks[thing[2]], body))


def fence_for(house, known, web, start, body):
    """A fence around the stations to which the body gets from the one of index start."""
    lot = tuple([known[k] for k in sorted(list(paths_for(web, start, body)))])
    bars = {
        (here, there): bar_for(house.floors[here[0]], body, here[1], there[1])
        for here, there in bars_across(lot, known)
    }
    return (lot, bars, {n: stuck_for(house, body, n) for n in rides_across(house, lot)})


def is_station_lot(house, one, other, known, thing):
    """Whether it is an ascending tuple of different stations with one and without other."""
    if not isinstance(thing, tuple) or not all([is_place_in(house, place) and place in known for place in thing]):
        return False
    return list(thing) == sorted(set(thing)) and one in thing and other not in thing


def is_fence_of(house, body, one, other, thing):
    """is_fence, for values other than thing that are surely such."""
    known = stations_of(house, [one, other])
    if not isinstance(thing, tuple) or len(thing) != 3 or not is_station_lot(house, one, other, known, thing[0]):
        return False
    lot, bars, stuck = thing
    pairs = bars_across(lot, known)
    rides = rides_across(house, lot)
    if not has_just_keys(bars, pairs) or not has_just_keys(stuck, rides):
        return False
    return all([
        is_bar_of(house.floors[here[0]], body, here[1], there[1], bars[(here, there)]) for here, there in pairs
    ]) and all([is_stuck(house, body, n, stuck[n]) for n in rides])


def are_fences_of(house, one, other, stairs, thing):
    """Whether any value is a dict from just the notches of stairs to fences of them."""
    wanted = notches_of(stairs)
    if not has_just_keys(thing, wanted):
        return False
    return all([is_fence_of(house, notch, one, other, thing[notch]) for notch in wanted])


def check_places(house, places):
    check_house(house)
    if not is_list(places) or not 1 <= len(places) <= MOST_ASKED:
        raise BadPlaces("places are a list of one to four places")
    if not all([is_place_in(house, place) for place in places]):
        raise BadPlaces("places are a list of one to four places")


def check_apart(house, one, other):
    check_house_ends(house, one, other)
    if one == other:
        raise BadOther("the two places are one")


def stations(house, places):
    """The ascending list of all different places among these and those of the lifts."""
    check_places(house, places)
    return stations_of(house, places)


def house_web(house, places):
    """The Web of the stations, each two of them linked by who gets straight from one to the other."""
    check_places(house, places)
    return web_in(house, stations_of(house, places))


def house_stairs(house, one, other):
    """The staircase of all bodies that get from one to other."""
    check_house_ends(house, one, other)
    return stairs_in(house, one, other)


def itineraries(house, one, other):
    """An itinerary for each corner of house_stairs."""
    check_house_ends(house, one, other)
    if one == other:
        return {corner: [] for corner in room_in(house, one)}
    known = stations_of(house, [one, other])
    web = web_in(house, known)
    ends = (known.index(one), known.index(other))
    return {corner: legs_for(house, known, web, ends, corner) for corner in between_of(web, ends[0], ends[1])}


def is_itinerary(house, corner, one, other, thing):
    """Whether any value is an itinerary of the corner from one to other."""
    check_house(house)
    check_corner(corner)
    check_house_ends(house, one, other)
    return is_itinerary_of(house, corner, one, other, thing)


def are_itineraries(house, one, other, thing):
    """Whether any value is a dict of itineraries for house_stairs."""
    check_house_ends(house, one, other)
    return are_itineraries_of(house, one, other, stairs_in(house, one, other), thing)


def fences(house, one, other):
    """A fence for each notch of house_stairs."""
    check_apart(house, one, other)
    known = stations_of(house, [one, other])
    web = web_in(house, known)
    start = known.index(one)
    stairs = between_of(web, start, known.index(other))
    return {notch: fence_for(house, known, web, start, notch) for notch in notches_of(stairs)}


def is_fence(house, body, one, other, thing):
    """Whether any value is a fence of the body between the two places."""
    check_house(house)
    check_body(body)
    check_apart(house, one, other)
    return is_fence_of(house, body, one, other, thing)


def are_fences(house, one, other, thing):
    """Whether any value is a dict of fences for house_stairs."""
    check_apart(house, one, other)
    return are_fences_of(house, one, other, stairs_in(house, one, other), thing)


def are_house_papers(house, one, other, stairs, ways, walls):
    """Whether the ways show that all of stairs gets from one to other, and the walls that nothing else does."""
    check_apart(house, one, other)
    if not is_stairs(stairs):
        return False
    return are_itineraries_of(house, one, other, stairs, ways) and are_fences_of(house, one, other, stairs, walls)
