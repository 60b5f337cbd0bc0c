"""What a program comes to for all bodies at once (point 85)."""

from gapstairs.cells import fine_cells_of, first_names, ranges_of
from gapstairs.checks import check_spot, is_number_pair
from gapstairs.drawings import check_drawing
from gapstairs.errors import BadGoal, BadSecond
from gapstairs.fits import is_free
from gapstairs.gaps import grid_of
from gapstairs.programs import Program, check_program
from gapstairs.runs import codes_of, outcome_of
from gapstairs.stairs import stairs_of
from gapstairs.touching import is_side


def least_body(cell):
    """The least body of a fine cell; what it does all bodies of the cell do."""
    return (cell[0][0], cell[1][0])


def with_names(drawing, body, spot, outcome):
    """The outcome with the first names of its spot in the place of it."""
    if outcome[0] != "ends":
        return outcome
    return ("ends", first_names(drawing, [spot], body, outcome[1]))


def check_table(drawing, spot, program):
    check_drawing(drawing)
    check_spot(spot)
    check_program(program)


def check_second(drawing, spot, program, second):
    check_table(drawing, spot, program)
    if not isinstance(second, Program):
        raise BadSecond("second is a Program")


def run_table(drawing, spot, program):
    """The outcomes of all bodies that fit at the spot, by fine cells."""
    check_table(drawing, spot, program)
    codes = codes_of(program)
    found = {}
    for cell in fine_cells_of(drawing, [spot]):
        body = least_body(cell)
        if is_free(drawing, body, spot):
            outcome = outcome_of(codes, drawing, body, spot, program.first)
            found[cell] = with_names(drawing, body, spot, outcome)
    return found


def first_unlike(drawing, spot, program, second):
    """parting_body, for values that are surely such."""
    codes = codes_of(program)
    others = codes_of(second)
    for cell in fine_cells_of(drawing, [spot]):
        body = least_body(cell)
        if is_free(drawing, body, spot):
            outcome = outcome_of(codes, drawing, body, spot, program.first)
            if outcome != outcome_of(others, drawing, body, spot, second.first):
                return body
    return None


def alike_runs(drawing, spot, program, second):
    """Whether the two programs have the same outcome for all bodies that fit at the spot."""
    check_second(drawing, spot, program, second)
    return first_unlike(drawing, spot, program, second) is None


def parting_body(drawing, spot, program, second):
    """The first body for which the two programs have unlike outcomes; None if there is none."""
    check_second(drawing, spot, program, second)
    return first_unlike(drawing, spot, program, second)


def comes_to(drawing, body, spot, codes, first, wanted):
    """Whether the body fits at the spot and its run has the wanted outcome."""
    return is_free(drawing, body, spot) and outcome_of(codes, drawing, body, spot, first) == wanted


def sure_stairs(drawing, spot, program, goal):
    """The staircase of all bodies that come to the goal together with all lesser ones."""
    check_table(drawing, spot, program)
    if not is_number_pair(goal) and not is_side(goal):
        raise BadGoal("a goal is a spot or a side")
    spots = [spot] if is_side(goal) else [spot, goal]
    wanted = ("lost", goal) if is_side(goal) else ("ends", goal)
    grid = grid_of(drawing, spots)
    codes = codes_of(program)
    heights = ranges_of(grid[1])
    corners = []
    limit = len(heights)
    for wide in ranges_of(grid[0]):
        many = 0
        while many < limit and comes_to(
                drawing, (wide[0], heights[many][0]), spot, codes, program.first, wanted):
            many += 1
        limit = many
        if limit > 0:
            corners.append((wide[1], heights[limit - 1][1]))
    return stairs_of(corners)
