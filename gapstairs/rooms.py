"""Staircases of the bodies that fit at a spot and all along a way (point 50)."""

from gapstairs.checks import check_spot
from gapstairs.drawings import check_drawing
from gapstairs.stairs import barred
from gapstairs.ways import check_stops


def barred_from(drawing, one, other):
    """The list of the least bodies that each block bars from the straight line between the spots."""
    start = (min(one[0], other[0]), min(one[1], other[1]))
    end = (max(one[0], other[0]), max(one[1], other[1]))
    return [
        (max(1, left - end[0] + 1), max(1, low - end[1] + 1))
        for left, low, right, high in drawing.blocks
        if right > start[0] and high > start[1]
    ]


def room_of(drawing, spot):
    return barred(barred_from(drawing, spot, spot))


def stairs_along(drawing, way):
    """The staircase of the bodies for which a list that is surely one of stops is a way."""
    bodies = barred_from(drawing, way[0], way[0])
    for k in range(len(way) - 1):
        bodies.extend(barred_from(drawing, way[k], way[k + 1]))
    return barred(bodies)


def room(drawing, spot):
    """The staircase of all bodies that fit at the spot."""
    check_drawing(drawing)
    check_spot(spot)
    return room_of(drawing, spot)


def stairs_of_way(drawing, way):
    """The staircase of all bodies for which the list is a way."""
    check_drawing(drawing)
    check_stops(way)
    return stairs_along(drawing, way)
