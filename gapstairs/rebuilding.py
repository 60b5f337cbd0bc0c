"""Rebuilding block by block under promises (point 113)."""

from gapstairs.checks import is_list, is_number_pair
from gapstairs.drawings import MOST_BLOCKS, Drawing, check_drawing
from gapstairs.errors import BadGoal, BadPromises, NotKept, TooMany
from gapstairs.passages import passage_of
from gapstairs.stairs import has, is_stairs, notches_of, within

MOST_PROMISES = 6


def is_promise(thing):
    """Whether any value is a promise."""
    if not isinstance(thing, tuple) or len(thing) != 4:
        return False
    one, other, low, high = thing
    if not is_number_pair(one) or not is_number_pair(other) or not is_stairs(low) or not is_stairs(high):
        return False
    return within(low, high)


def check_promises(promises):
    if not is_list(promises) or len(promises) > MOST_PROMISES or not all([is_promise(item) for item in promises]):
        raise BadPromises("promises are a list of at most six promises")


def first_beyond(one, other):
    """The first body that one holds and other does not, as a list; an empty one if there is none."""
    # The least bodies that other does not hold are its notches.
    return [notch for notch in notches_of(other) if has(one, notch)][:1]


def breach_of(low, high, least, most):
    """The pair of the first body that breaks a promise and of whether it gets through; None if there is none.

    What is held at least is in least, what is held at most in most; these are equal where nothing moves.
    """
    found = [(body, False) for body in first_beyond(low, least)] + [(body, True) for body in first_beyond(most, high)]
    return min(found, default=None)


def does_keep(drawing, promise):
    one, other, low, high = promise
    stairs = passage_of(drawing, one, other)
    return within(low, stairs) and within(stairs, high)


def keeps_all(drawing, promises):
    """keeps, for values that are surely such."""
    for promise in promises:
        if not does_keep(drawing, promise):
            return False
    return True


class Works:
    """The Drawings that may come while drawing is rebuilt, each told by the bits of a number for its blocks."""

    def __init__(self, drawing, goal, promises):
        self.blocks = sorted(set(list(drawing.blocks) + list(goal.blocks)))
        self.wanted = promises
        self.kept = {}


def drawing_for(works, lot):
    return Drawing([block for k, block in enumerate(works.blocks) if lot >> k & 1 == 1])


def lot_for(works, drawing):
    """The number of a Drawing all blocks of which may come."""
    return sum([1 << works.blocks.index(block) for block in drawing.blocks])


def is_kept(works, lot):
    """Whether the Drawing keeps all promises."""
    if lot not in works.kept:
        works.kept[lot] = keeps_all(drawing_for(works, lot), works.wanted)
    return works.kept[lot]


def near_lots(works, lot):
    """The list of the lots with one block more or less."""
    return [lot ^ 1 << k for k in range(len(works.blocks))]


def spread_from(works, start, end):
    """The dict from each lot that steps lead to from start, until the end is met, to the one ahead of it."""
    came = {start: None}
    waiting = [start]
    k = 0
    while k < len(waiting) and end not in came:
        here = waiting[k]
        k += 1
        for there in near_lots(works, here):
            if there not in came and is_kept(works, there):
                came[there] = here
                waiting.append(there)
    return came


def steps_to(works, came, end):
    """The list of the Drawings from where came began to the end."""
    found = []
    here = end
    while here is not None:
        found.append(drawing_for(works, here))
        here = came[here]
    return list(reversed(found))


def works_for(drawing, goal, promises):
    """The Works, if the parameters are such."""
    check_drawing(drawing)
    if not isinstance(goal, Drawing):
        raise BadGoal("goal is a Drawing")
    check_promises(promises)
    return works_between(drawing, goal, promises)


def works_between(drawing, goal, promises):
    """The Works for values that are surely such, if both keep all promises."""
    if not keeps_all(drawing, promises) or not keeps_all(goal, promises):
        raise NotKept("drawing and goal keep all promises")
    works = Works(drawing, goal, promises)
    if len(works.blocks) > MOST_BLOCKS:
        raise TooMany(MOST_BLOCKS)
    return works


def rebuilding_by(works, drawing, goal):
    """rebuilding, for values that are surely such."""
    end = lot_for(works, goal)
    came = spread_from(works, lot_for(works, drawing), end)
    return steps_to(works, came, end) if end in came else None


def are_drawings_of(works, thing):
    """Whether any value is a list of Drawings of the blocks that may come, all of which keep all promises."""
    if not is_list(thing) or not all([isinstance(drawing, Drawing) for drawing in thing]):
        return False
    if not all([block in works.blocks for drawing in thing for block in drawing.blocks]):
        return False
    return all([is_kept(works, lot_for(works, drawing)) for drawing in thing])


def keeps(drawing, promises):
    """Whether the drawing keeps all promises."""
    check_drawing(drawing)
    check_promises(promises)
    return keeps_all(drawing, promises)


def breach(drawing, promises):
    """The index of the first promise that is not kept, the first body that breaks it, and whether it gets through."""
    check_drawing(drawing)
    check_promises(promises)
    for k, promise in enumerate(promises):
        one, other, low, high = promise
        stairs = passage_of(drawing, one, other)
        found = breach_of(low, high, stairs, stairs)
        if found is not None:
            return (k, found[0], found[1])
    return None


def rebuilding(drawing, goal, promises):
    """A list of Drawings from drawing to goal, in as few steps as there can be; None if there is none."""
    return rebuilding_by(works_for(drawing, goal, promises), drawing, goal)


def is_rebuilding(drawing, goal, promises, thing):
    """Whether any value is a rebuilding."""
    works = works_for(drawing, goal, promises)
    if not are_drawings_of(works, thing) or len(thing) == 0 or thing[0] != drawing or thing[-1] != goal:
        return False
    lots = [lot_for(works, step) for step in thing]
    return all([lots[k + 1] in near_lots(works, lots[k]) for k in range(len(lots) - 1)])


def moat(drawing, goal, promises):
    """The list of all Drawings that steps lead to; None if goal is one of them."""
    works = works_for(drawing, goal, promises)
    end = lot_for(works, goal)
    came = spread_from(works, lot_for(works, drawing), end)
    if end in came:
        return None
    return sorted([drawing_for(works, lot) for lot in came], key=lambda step: step.blocks)


def is_moat(drawing, goal, promises, thing):
    """Whether any value is a moat."""
    works = works_for(drawing, goal, promises)
    if not are_drawings_of(works, thing):
        return False
    lots = {lot_for(works, step): True for step in thing}
    if len(lots) != len(thing) or lot_for(works, drawing) not in lots or lot_for(works, goal) in lots:
        return False
    return not any([near not in lots and is_kept(works, near) for lot in lots for near in near_lots(works, lot)])
