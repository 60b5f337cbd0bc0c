"""Fine cells of sizes, within which all places keep their names (point 82)."""

from gapstairs.bodies import check_body
from gapstairs.checks import check_spot, is_index
from gapstairs.errors import BadNames
from gapstairs.gaps import check_grid, grid_of

X_NAMES = ("spot", "right", "left")
Y_NAMES = ("spot", "high", "low")


def ranges_of(numbers):
    """The ascending list of the fine ranges for an ascending tuple of numbers."""
    found = []
    least = 1
    for number in numbers:
        if number > least:
            found.append((least, number - 1))
        found.append((number, number))
        least = number + 1
    return found + [(least, None)]


def has_size(span, size):
    """Whether the range has the size."""
    return span[0] <= size and (span[1] is None or size <= span[1])


def fine_cells_of(drawing, spots):
    """fine_cells, for values that are surely such."""
    grid = grid_of(drawing, spots)
    return [(wide, high) for wide in ranges_of(grid[0]) for high in ranges_of(grid[1])]


def is_name(drawing, spots, kinds, thing):
    """Whether it is a name of one of three kinds: of a spot, or of one of two sides of a block."""
    if not isinstance(thing, tuple) or len(thing) != 2 or thing[0] not in kinds:
        return False
    return is_index(thing[1], len(spots) if thing[0] == "spot" else len(drawing.blocks))


def names_for(drawing, spots, body, axis):
    """The list of pairs of a name and the number that it stands for, first names first."""
    far, near = (X_NAMES if axis == 0 else Y_NAMES)[1:]
    blocks = drawing.blocks
    found = [(("spot", k), spot[axis]) for k, spot in enumerate(spots)]
    found.extend([((far, i), block[axis + 2]) for i, block in enumerate(blocks)])
    found.extend([((near, i), block[axis] - body[axis]) for i, block in enumerate(blocks)])
    return found


def first_name(drawing, spots, body, spot, axis):
    """The first name that stands for a number of the spot; None if there is none."""
    names = [name for name, number in names_for(drawing, spots, body, axis) if number == spot[axis]]
    return names[0] if names else None


def first_names(drawing, spots, body, spot):
    """named, for values that are surely such."""
    found = (first_name(drawing, spots, body, spot, 0), first_name(drawing, spots, body, spot, 1))
    return None if None in found else found


def number_of(drawing, spots, body, name, axis):
    """The number for which the name stands."""
    return [number for known, number in names_for(drawing, spots, body, axis) if known == name][0]


def check_names(drawing, spots, names):
    if not isinstance(names, tuple) or len(names) != 2:
        raise BadNames("names are a pair of a name of x and a name of y")
    if not is_name(drawing, spots, X_NAMES, names[0]) or not is_name(drawing, spots, Y_NAMES, names[1]):
        raise BadNames("names are a pair of a name of x and a name of y")


def check_cells(drawing, spots, body):
    check_grid(drawing, spots)
    check_body(body)


def fine_cells(drawing, spots):
    """The ascending list of all fine cells."""
    check_grid(drawing, spots)
    return fine_cells_of(drawing, spots)


def fine_cell(drawing, spots, body):
    """The fine cell that has the body."""
    check_cells(drawing, spots, body)
    grid = grid_of(drawing, spots)
    wide = [span for span in ranges_of(grid[0]) if has_size(span, body[0])]
    high = [span for span in ranges_of(grid[1]) if has_size(span, body[1])]
    return (wide[0], high[0])


def place(drawing, spots, body, names):
    """The spot for which the names stand."""
    check_cells(drawing, spots, body)
    check_names(drawing, spots, names)
    return (number_of(drawing, spots, body, names[0], 0), number_of(drawing, spots, body, names[1], 1))


def named(drawing, spots, body, spot):
    """The pair of the first names of the spot's numbers; None if one has no name."""
    check_cells(drawing, spots, body)
    check_spot(spot)
    return first_names(drawing, spots, body, spot)
