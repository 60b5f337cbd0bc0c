"""Records of what was felt, and what they tell of the body (point 112)."""

from gapstairs.bodies import check_body
from gapstairs.cells import ranges_of
from gapstairs.chambers import check_free
from gapstairs.checks import is_list, is_number_pair
from gapstairs.drawings import Drawing
from gapstairs.errors import BadNotes, NoBody
from gapstairs.fits import barred_boxes, check_at, is_free
from gapstairs.gaps import grid_of
from gapstairs.machines import SENSES, check_row, feel_at, feels_along, is_move_row, is_senses, stand_behind
from gapstairs.stairs import barred, check_stairs, has, notches_of, stairs_of, within

MOST_NOTES = 12


def is_felt(row, thing):
    """Whether any value is what can have been felt along a row: senses at first and behind each move."""
    return is_list(thing) and len(thing) == len(row) + 1 and all([is_senses(senses) for senses in thing])


def is_record(thing):
    """Whether any value is a record."""
    if not isinstance(thing, tuple) or len(thing) != 3 or not is_number_pair(thing[0]):
        return False
    return is_move_row(thing[1]) and is_felt(thing[1], thing[2])


def is_note(thing):
    """Whether any value is a pair of a Drawing and a record."""
    return isinstance(thing, tuple) and len(thing) == 2 and isinstance(thing[0], Drawing) and is_record(thing[1])


def check_notes(notes):
    if not is_list(notes) or len(notes) > MOST_NOTES or not all([is_note(note) for note in notes]):
        raise BadNotes("notes are a list of at most twelve pairs of a Drawing and a record")


def agrees_with(note, body):
    """Whether the body agrees with one of the notes."""
    spot, row, felt = note[1]
    if not is_free(note[0], body, spot):
        return False
    boxes = barred_boxes(note[0], body)
    stand = spot
    if feel_at(boxes, stand, SENSES) != felt[0]:
        return False
    for move, senses in zip(row, felt[1:]):
        stand = stand_behind(boxes, stand, move)
        if feel_at(boxes, stand, SENSES) != senses:
            return False
    return True


def joined_spans(spans):
    """The list of the fewest ranges with the sizes of an ascending list of ranges."""
    found = []
    for least, most in spans:
        goes_on = len(found) > 0 and found[-1][1] is not None and found[-1][1] + 1 == least
        found.append((found.pop()[0] if goes_on else least, most))
    return found


def is_less(one, other):
    """Whether a range ends ahead of the other."""
    return one[1] is not None and (other[1] is None or one[1] < other[1])


def shared_spans(one, other):
    """The ascending list of the ranges that two such lists share."""
    found = []
    i = 0
    j = 0
    while i < len(one) and j < len(other):
        least = max(one[i][0], other[j][0])
        first = is_less(one[i], other[j])
        most = one[i][1] if first else other[j][1]
        if most is None or least <= most:
            found.append((least, most))
        if first:
            i += 1
        else:
            j += 1
    return found


class Column:
    """The heights with which some widths agree with one of the notes, kept as they are found."""

    def __init__(self, note):
        self.told = note
        self.grid = grid_of(note[0], [note[1][0]])
        self.known = {}


def heights_at(column, width):
    """The list of the fewest ranges of heights with which the width agrees."""
    # All sizes of one fine range feel the same; its least one stands for it.
    least = [span[0] for span in ranges_of(column.grid[0]) if span[0] <= width][-1]
    if least not in column.known:
        spans = ranges_of(column.grid[1])
        column.known[least] = joined_spans([span for span in spans if agrees_with(column.told, (least, span[0]))])
    return column.known[least]


def bands_of(notes):
    """The ascending list of pairs of a range of widths and the ranges of heights with which these agree."""
    columns = [Column(note) for note in notes]
    numbers = sorted(set([number for column in columns for number in column.grid[0]]))
    found = []
    for least, most in ranges_of(numbers):
        heights = [(1, None)]
        for column in columns:
            if heights:
                heights = shared_spans(heights, heights_at(column, least))
        heights = joined_spans(heights)
        goes_on = len(found) > 0 and found[-1][1] == heights
        found.append(((found.pop()[0][0] if goes_on else least, most), heights))
    return found


def patches_of(notes):
    """agreeing, for values that are surely such."""
    return [
        ((wide[0], high[0]), (wide[1], high[1])) for wide, heights in bands_of(notes) for high in heights
    ]


def bound_of(patches):
    return stairs_of([corner for _, corner in patches])


def base_of(patches):
    return barred([least for least, _ in patches])


def surely(patches, stairs):
    """sure, for patches of at least one body."""
    if within(bound_of(patches), stairs):
        return True
    return False if within(stairs, base_of(patches)) else None


def patches_for(notes, stairs):
    """The patches, if the parameters are such and some body agrees."""
    check_notes(notes)
    check_stairs(stairs)
    patches = patches_of(notes)
    if patches == []:
        raise NoBody("no body agrees with the notes")
    return patches


def least_beyond(patches, notch):
    """The list of the least bodies of patches that are at least the notch."""
    least = [((max(low[0], notch[0]), max(low[1], notch[1])), corner) for low, corner in patches]
    return [body for body, corner in least if has((corner,), body)]


def record(drawing, body, spot, row):
    """The record with which the body agrees."""
    check_at(drawing, body, spot)
    check_row(row)
    check_free(drawing, body, [spot])
    return (spot, tuple(row), tuple(feels_along(barred_boxes(drawing, body), spot, row, SENSES)))


def agrees(notes, body):
    """Whether the body agrees with all notes."""
    check_notes(notes)
    check_body(body)
    return all([agrees_with(note, body) for note in notes])


def agreeing(notes):
    """The list of the patches that have just the bodies that agree."""
    check_notes(notes)
    return patches_of(notes)


def bound(notes):
    """The least staircase that holds all bodies that agree."""
    check_notes(notes)
    return bound_of(patches_of(notes))


def base(notes):
    """The greatest staircase that holds no body that is at least one that agrees."""
    check_notes(notes)
    return base_of(patches_of(notes))


def sure(notes, stairs):
    """True if the staircase holds all bodies that agree, False if it holds none, None otherwise."""
    return surely(patches_for(notes, stairs), stairs)


def doubtful(notes, stairs):
    """The first body that agrees and is held and the first that is not; None if it is sure."""
    patches = patches_for(notes, stairs)
    if surely(patches, stairs) is not None:
        return None
    inner = [least for least, _ in patches if has(stairs, least)]
    outer = [body for notch in notches_of(stairs) for body in least_beyond(patches, notch)]
    return (min(inner), min(outer))
