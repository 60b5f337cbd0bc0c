"""Staircases of bodies (point 11)."""

from gapstairs.bodies import check_body, check_corner, encloses, is_above, is_body, is_corner, lesser
from gapstairs.checks import check_by, is_list
from gapstairs.errors import BadBodies, BadCorners, BadLeast, BadStairs

ALL = ((None, None),)


def is_stairs(thing):
    """Whether any value is a staircase."""
    if not isinstance(thing, tuple) or not all([is_corner(corner) for corner in thing]):
        return False
    return all([is_step(thing[k], thing[k + 1]) for k in range(len(thing) - 1)])


def is_step(corner, further):
    """Whether the further corner is wider and lower."""
    return is_above(further[0], corner[0]) and is_above(corner[1], further[1])


def check_stairs(stairs):
    if not is_stairs(stairs):
        raise BadStairs("a staircase is a tuple of corners, ever wider and lower")


def corner_order(corner):
    """A key that sorts corners with None behind all numbers."""
    return (corner[0] is None, corner[0] or 0, corner[1] is None, corner[1] or 0)


def stairs_of(corners):
    """The staircase of a list that is surely one of corners."""
    found = []
    best = 0
    for corner in reversed(sorted(corners, key=corner_order)):
        if is_above(corner[1], best):
            found.append(corner)
            best = corner[1]
    return tuple(reversed(found))


def staircase(corners):
    """The staircase that holds just what some of the corners hold."""
    if not is_list(corners) or not all([is_corner(corner) for corner in corners]):
        raise BadCorners("corners are a list of corners")
    return stairs_of(corners)


def has(stairs, corner):
    """Whether the staircase holds the corner, or the body, for values that are surely such."""
    return any([encloses(own, corner) for own in stairs])


def held(stairs, body):
    """Whether the staircase holds the body."""
    check_stairs(stairs)
    check_body(body)
    return has(stairs, body)


def held_whole(stairs, corner):
    """Whether the staircase holds all bodies that the corner holds."""
    check_stairs(stairs)
    check_corner(corner)
    return has(stairs, corner)


def either(one, other):
    """What is joined of two values that are surely staircases."""
    return stairs_of(one + other)


def both(one, other):
    """What is met of two values that are surely staircases."""
    corners = []
    i = 0
    j = 0
    # At each first item of the two the height is the lesser of both heights there.
    while i < len(one) and j < len(other):
        corners.append((lesser(one[i][0], other[j][0]), lesser(one[i][1], other[j][1])))
        goes = not is_above(one[i][0], other[j][0])
        other_goes = not is_above(other[j][0], one[i][0])
        if goes:
            i += 1
        if other_goes:
            j += 1
    return stairs_of(corners)


def within(one, other):
    """Whether other holds all that one holds, both surely staircases."""
    return all([has(other, corner) for corner in one])


def joined(one, other):
    """The staircase of the bodies that one of the two or both hold."""
    check_stairs(one)
    check_stairs(other)
    return either(one, other)


def met(one, other):
    """The staircase of the bodies that both hold."""
    check_stairs(one)
    check_stairs(other)
    return both(one, other)


def inside(one, other):
    """Whether other holds all bodies that one holds."""
    check_stairs(one)
    check_stairs(other)
    return within(one, other)


def notches_of(stairs):
    """The notches of a value that is surely a staircase."""
    widths = [0] + [corner[0] for corner in stairs]
    heights = [corner[1] for corner in stairs] + [0]
    return [
        (width + 1, height + 1)
        for width, height in zip(widths, heights)
        if width is not None and height is not None
    ]


def notches(stairs):
    """The ascending list of the least bodies that the staircase does not hold."""
    check_stairs(stairs)
    return notches_of(stairs)


def barred(bodies):
    """The staircase of all bodies that are at least none of the bodies."""
    if not is_list(bodies) or not all([is_body(body) for body in bodies]):
        raise BadBodies("bodies are a list of bodies")
    least = []
    for body in sorted(bodies):
        if not least or body[1] < least[-1][1]:
            least.append(body)
    widths = [body[0] - 1 for body in least] + [None]
    heights = [None] + [body[1] - 1 for body in least]
    return tuple([(width, height) for width, height in zip(widths, heights) if width != 0 and height != 0])


def witness(one, other):
    """The first notch of other that one holds; None if there is none."""
    check_stairs(one)
    check_stairs(other)
    for notch in notches_of(other):
        if has(one, notch):
            return notch
    return None


def count_of(stairs, body):
    """How many bodies the staircase and the corner `body` both hold."""
    total = 0
    done = 0
    for width, height in both(stairs, (body,)):
        total += (width - done) * height
        done = width
    return total


def counted(stairs, body):
    """How many bodies that the corner `body` holds the staircase holds."""
    check_stairs(stairs)
    check_body(body)
    return count_of(stairs, body)


def flipped(stairs):
    """The staircase of the bodies with width and height exchanged."""
    check_stairs(stairs)
    return tuple([(high, wide) for wide, high in reversed(stairs)])


def moved_item(item, by):
    return None if item is None else item - by


def moved(stairs, least, by):
    """The staircase of the bodies that are held when they grow by `by`, and to `least` at least."""
    check_stairs(stairs)
    if not is_body(least):
        raise BadLeast("least is a body")
    check_by(by)
    corners = [
        (moved_item(wide, by[0]), moved_item(high, by[1]))
        for wide, high in stairs
        if encloses((wide, high), least)
    ]
    return stairs_of([corner for corner in corners if encloses(corner, (1, 1))])
