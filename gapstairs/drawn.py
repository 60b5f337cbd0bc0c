"""A drawing for each staircase of up to four finite corners (point 56)."""

from gapstairs.drawings import Drawing
from gapstairs.errors import NotFinite, TooMany
from gapstairs.stairs import check_stairs, notches_of

MOST_CORNERS = 4


def drawn(stairs):
    """A drawing and two spots between which the staircase is the passage."""
    check_stairs(stairs)
    if any([None in corner for corner in stairs]):
        raise NotFinite("a corner is endless")
    if len(stairs) > MOST_CORNERS:
        raise TooMany(MOST_CORNERS)
    wide = stairs[-1][0] if stairs else 1
    high = stairs[0][1] if stairs else 1
    # The inside lies below a lid whose lower left corner is (0, 0). For each notch (a, b) a step of the floor has
    # its upper right corner at (1 - a, 1 - b): it comes near the lid for just the bodies from the notch on.
    one = (0, -high)
    lid = (0, 0, wide + 1, 1)
    wall = (wide, -high - 1, wide + 1, 1)
    floor = (-wide - 1, -high - 1, wide + 1, -high)
    steps = [(-wide - 1, -high - 1, 1 - a, 1 - b) for a, b in notches_of(stairs)]
    return (Drawing([lid, wall, floor] + steps), one, (wide + 1, 1))
