"""Walks along the rim of what is touched, which stays at the right hand (point 81)."""

from gapstairs.errors import NotTouched
from gapstairs.fits import barred_boxes
from gapstairs.touching import check_feeling, is_touching, left_turn, right_turn, slide


def next_hold(boxes, hold):
    """The hold after the hold."""
    spot, side = hold
    ahead = left_turn(side)
    there = slide(boxes, spot, side, ahead)
    return (there, ahead if is_touching(boxes, there, side) else right_turn(side))


def round_from(boxes, hold):
    """The list of the holds after the hold, up to where the first of them would come again."""
    holds = [next_hold(boxes, hold)]
    further = next_hold(boxes, holds[0])
    while further != holds[0]:
        holds.append(further)
        further = next_hold(boxes, further)
    return holds


def check_rim(drawing, body, spot, side):
    check_feeling(drawing, body, spot, side)
    if not is_touching(barred_boxes(drawing, body), spot, side):
        raise NotTouched("the side is not touched at the spot")


def rim(drawing, body, spot, side):
    """The list of the holds of the round that the body comes to from the spot."""
    check_rim(drawing, body, spot, side)
    return round_from(barred_boxes(drawing, body), (spot, side))


def rim_turn(drawing, body, spot, side):
    """How many corners of the whole round are inner ones, less how many are outer ones."""
    check_rim(drawing, body, spot, side)
    held = [hold[1] for hold in round_from(barred_boxes(drawing, body), (spot, side))]
    # A step turns the side to the left at an inner corner, and to the right at an outer one.
    return sum([1 if held[k] == left_turn(held[k - 1]) else -1 for k in range(len(held))])
