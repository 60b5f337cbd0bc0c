"""Which kinds of all bodies feeling tells apart (point 92)."""

from gapstairs.cells import fine_cells_of
from gapstairs.checks import check_spot
from gapstairs.drawings import check_drawing
from gapstairs.errors import TooMany
from gapstairs.fits import is_free
from gapstairs.machines import SENSES, check_senses
from gapstairs.partings import kinds_of
from gapstairs.tables import least_body

MOST_CELLS = 400


def kinds_of_all(drawing, spot, senses=SENSES):
    """The lists of the least bodies of fine cells that are alike at the spot."""
    check_drawing(drawing)
    check_spot(spot)
    check_senses(senses)
    cells = fine_cells_of(drawing, [spot])
    if len(cells) > MOST_CELLS:
        raise TooMany(MOST_CELLS)
    bodies = [least_body(cell) for cell in cells if is_free(drawing, least_body(cell), spot)]
    return [[bodies[k] for k in kind] for kind in kinds_of(drawing, [(body, spot) for body in bodies], senses)]
