"""Bodies and the corners that hold them (point 10)."""

from gapstairs.checks import is_number
from gapstairs.errors import BadBody, BadCorner


def is_size(thing):
    return is_number(thing) and thing >= 1


def is_body(thing):
    """Whether any value is a pair of sizes."""
    return isinstance(thing, tuple) and len(thing) == 2 and is_size(thing[0]) and is_size(thing[1])


def is_corner(thing):
    """Whether any value is a pair of which each item is a size or None."""
    if not isinstance(thing, tuple) or len(thing) != 2:
        return False
    return all([item is None or is_size(item) for item in thing])


def check_body(body):
    if not is_body(body):
        raise BadBody("a body is a pair of sizes")


def check_corner(corner):
    if not is_corner(corner):
        raise BadCorner("a corner is a pair of sizes or None")


def is_above(one, other):
    """Whether the one is above the other, None being endless."""
    return other is not None and (one is None or one > other)


def lesser(one, other):
    """The lesser of two items of corners, None being endless."""
    return other if is_above(one, other) else one


def encloses(corner, inner):
    """Whether the corner holds all that the inner corner, or the body, holds."""
    return not is_above(inner[0], corner[0]) and not is_above(inner[1], corner[1])


def holds(corner, body):
    """Whether the corner holds the body."""
    check_corner(corner)
    check_body(body)
    return encloses(corner, body)
