"""What several modules ask of the values that they are given."""

from gapstairs.errors import BadBy, BadSpot, BadSpots


def is_number(thing):
    """Whether it is an int that is not a bool."""
    return isinstance(thing, int) and not isinstance(thing, bool)


def is_list(thing):
    """Whether it may stand where a list is expected."""
    return isinstance(thing, (list, tuple))


def is_number_pair(thing):
    return isinstance(thing, tuple) and len(thing) == 2 and is_number(thing[0]) and is_number(thing[1])


def is_spot_list(thing):
    return is_list(thing) and all([is_number_pair(spot) for spot in thing])


def is_index(thing, many):
    """Whether it is one of the numbers 0 to many - 1."""
    return is_number(thing) and 0 <= thing < many


def is_rising(row):
    """Whether each item is above the one ahead of it."""
    return all([row[k] < row[k + 1] for k in range(len(row) - 1)])


def is_lot(thing, many):
    """Whether it is an ascending tuple of different numbers from 0 to many - 1."""
    return isinstance(thing, tuple) and all([is_index(i, many) for i in thing]) and is_rising(thing)


def is_plain(thing):
    """Whether it is a number, None, or a tuple of such at any depth."""
    if isinstance(thing, tuple):
        return all([is_plain(item) for item in thing])
    return thing is None or is_number(thing)


def has_just_keys(thing, keys):
    """Whether it is a dict with just these keys, which are numbers, or tuples of numbers and None."""
    if not isinstance(thing, dict) or len(thing) != len(keys):
        return False
    # Keys are asked for their form first: True would be found where 1 stands.
    return all([is_plain(key) and key in keys for key in thing])


def check_spot(spot):
    if not is_number_pair(spot):
        raise BadSpot("a spot is a pair of numbers")


def check_spots(spots):
    if not is_spot_list(spots):
        raise BadSpots("spots are a list of pairs of numbers")


def check_by(by):
    if not is_number_pair(by):
        raise BadBy("by is a pair of numbers")
