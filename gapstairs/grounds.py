"""Grounds: finite sets of cells, in bands (point 21)."""

from itertools import combinations

from gapstairs.checks import is_number, is_number_pair
from gapstairs.drawings import MOST_BLOCKS, Drawing, check_drawing, taken
from gapstairs.errors import BadBands, BadGround, TooMany

# Which cells go into a Ground of two: those in the one, in the other, as pairs of whether.
IN_ANY = ((True, False), (False, True), (True, True))
IN_BOTH = ((True, True),)
IN_FIRST = ((True, False),)


def is_cell(thing):
    """Whether any value is a pair of numbers."""
    return is_number_pair(thing)


def are_spans(thing):
    """Whether it is a tuple of one or more spans, each begun to the right of the one ahead of it."""
    if not isinstance(thing, tuple) or thing == ():
        return False
    if not all([is_number_pair(span) and span[0] < span[1] for span in thing]):
        return False
    return all([thing[k][1] < thing[k + 1][0] for k in range(len(thing) - 1)])


def is_band(thing):
    if not isinstance(thing, tuple) or len(thing) != 3:
        return False
    return is_number(thing[0]) and is_number(thing[1]) and thing[0] < thing[1] and are_spans(thing[2])


def may_follow(band, further):
    """Whether the further band may stand behind the band."""
    return band[1] < further[0] or (band[1] == further[0] and band[2] != further[2])


def are_bands(thing):
    """Whether it is a tuple of bands as a Ground has them."""
    if not isinstance(thing, tuple) or not all([is_band(band) for band in thing]):
        return False
    return all([may_follow(thing[k], thing[k + 1]) for k in range(len(thing) - 1)])


def in_spans(spans, x):
    return any([left <= x < right for left, right in spans])


def spans_at(bands, y):
    """The spans of the row of cells at y."""
    for low, high, spans in bands:
        if low <= y < high:
            return spans
    return ()


def picked_spans(spans, others, wanted):
    """The spans of all cells of a row that are in the two rows as wanted."""
    found = []
    stops = sorted(set([x for span in spans + others for x in span]))
    for left, right in zip(stops, stops[1:]):
        if (in_spans(spans, left), in_spans(others, left)) in wanted:
            if found and found[-1][1] == left:
                left = found.pop()[0]
            found.append((left, right))
    return tuple(found)


def stacked(rows):
    """The bands of rows (low, high, spans) from below, none of which overlap; spans may be ()."""
    found = []
    for low, high, spans in rows:
        if spans != ():
            if found and found[-1][1] == low and found[-1][2] == spans:
                low = found.pop()[0]
            found.append((low, high, spans))
    return tuple(found)


def picked_bands(bands, others, wanted):
    """The bands of all cells that are in the two grounds as wanted."""
    stops = sorted(set([y for band in bands + others for y in band[:2]]))
    return stacked([
        (low, high, picked_spans(spans_at(bands, low), spans_at(others, low), wanted))
        for low, high in zip(stops, stops[1:])
    ])


class Ground:
    """A finite set of cells."""

    def __init__(self, bands):
        if not are_bands(bands):
            raise BadBands("no bands of a ground")
        self.bands = bands

    def __eq__(self, other):
        return isinstance(other, Ground) and self.bands == other.bands

    def __contains__(self, x):
        return is_cell(x) and in_spans(spans_at(self.bands, x[1]), x[0])

    def __or__(self, other):
        return Ground(picked_bands(self.bands, other.bands, IN_ANY))

    def __and__(self, other):
        return Ground(picked_bands(self.bands, other.bands, IN_BOTH))

    def __sub__(self, other):
        return Ground(picked_bands(self.bands, other.bands, IN_FIRST))


def check_ground(ground):
    if not isinstance(ground, Ground):
        raise BadGround("ground is a Ground")


def merged_spans(spans):
    """The spans of a row that has just the cells of some spans, which may overlap."""
    found = []
    for left, right in sorted(spans):
        if found and left <= found[-1][1]:
            left, ahead = found.pop()
            right = max(right, ahead)
        found.append((left, right))
    return tuple(found)


def ground_from(boxes):
    """The Ground of the cells of boxes (left, low, right, high), of any number."""
    stops = sorted(set([y for box in boxes for y in (box[1], box[3])]))
    return Ground(stacked([
        (low, high, merged_spans([(box[0], box[2]) for box in boxes if box[1] <= low < box[3]]))
        for low, high in zip(stops, stops[1:])
    ]))


def ground_of(drawing):
    """The Ground of the cells of all blocks."""
    check_drawing(drawing)
    return ground_from(drawing.blocks)


def boxes_of(ground):
    """The ascending list of the boxes of all spans of a Ground."""
    return sorted([(left, low, right, high) for low, high, spans in ground.bands for left, right in spans])


def ground_blocks(ground):
    """The ascending list of the blocks of all spans."""
    check_ground(ground)
    return boxes_of(ground)


def drawing_of(ground):
    """The Drawing of the blocks of all spans."""
    check_ground(ground)
    blocks = boxes_of(ground)
    if len(blocks) > MOST_BLOCKS:
        raise TooMany(MOST_BLOCKS)
    return Drawing(blocks)


def same_ground(drawing, second):
    """Whether the two drawings have the same cells."""
    return ground_of(drawing) == ground_of(second)


def hidden(drawing):
    """The ascending list of the indexes of the blocks whose cells all are cells of other blocks."""
    check_drawing(drawing)
    return [i for i in range(len(drawing.blocks)) if same_ground(drawing, taken(drawing, (i,)))]


def holders(drawing):
    """The list of the different tuples of the indexes of all blocks that have some one cell."""
    blocks = drawing.blocks
    lefts = sorted(set([x for block in blocks for x in (block[0], block[2])]))
    lows = sorted(set([y for block in blocks for y in (block[1], block[3])]))
    return sorted(set([
        tuple([
            i for i, block in enumerate(blocks)
            if block[0] <= x < block[2] and block[1] <= y < block[3]
        ])
        for x in lefts for y in lows
    ]))


def kept(drawing):
    """The first of the shortest tuples of indexes of blocks that have all cells of the ground."""
    check_drawing(drawing)
    needs = [need for need in holders(drawing) if need != ()]
    for many in range(len(drawing.blocks)):
        for lot in combinations(range(len(drawing.blocks)), many):
            if all([any([i in lot for i in need]) for need in needs]):
                return lot
    return tuple(range(len(drawing.blocks)))
