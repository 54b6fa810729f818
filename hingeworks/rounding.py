"""Models whose numbers are rounded to a grid."""

from hingeworks.classes import check_class_model
from hingeworks.errors import BadNumber, TooMany
from hingeworks.formulas import Formula, number_formula
from hingeworks.models import check_switches
from hingeworks.parts import result_part
from hingeworks.ratios import Ratio, is_integer, on_grid
from hingeworks.sketches import written_model
from hingeworks.twofold import input_found, unlike_point

MOST_GRIDS = 6


class GridChoice:
    """The first grid that keeps a model, or None, and an input at which the model is lost for each grid before it."""

    def __init__(self, grid, lost):
        self.grid = grid
        self.lost = tuple(lost)


def rounded(model, grid):
    """The model whose planes, factors and ends of clips are rounded to multiples of 1 / grid."""
    check_grid(grid)
    rows = []
    for line in model.lines:
        rows.extend(rounded_sketch(line, grid))
    return written_model(model, rows)


def first_grid(model, grids):
    """The first one of some grids for which the rounded model returns the same class for every input."""
    check_class_model(model)
    if len(grids) > MOST_GRIDS:
        raise TooMany("grids", len(grids), MOST_GRIDS)
    for grid in grids:
        check_grid(grid)
    check_switches(2 * model.switches)
    lost = []
    for grid in grids:
        given = input_found([result_part(model), result_part(rounded(model, grid))], unlike_point)
        if given is None:
            return GridChoice(grid, lost)
        lost.append(given)
    return GridChoice(None, lost)


def check_grid(grid):
    """Refuses any value that is not an integer from 1 on."""
    if not is_integer(grid) or grid < 1:
        raise BadNumber("grid", grid)


def rounded_sketch(line, grid):
    """The sketch of a line, rounded; a clip between two equal ends is a sum."""
    rows = [[rounded_item(item, grid) for item in row] for row in line.sketch()]
    if line.kind == "clip":
        _, name, low_end, high_end, _ = rows[0]
        if low_end == high_end:
            return [["sum", name, number_formula(low_end)]]
    return rows


def rounded_item(item, grid):
    """An item of a sketch, rounded."""
    if isinstance(item, Ratio):
        return on_grid(item, grid)
    if isinstance(item, Formula):
        return rounded_formula(item, grid)
    return item


def rounded_formula(formula, grid):
    """A formula, all of whose ratios are rounded; multiples that become 0 are left out."""
    parts = [(place, on_grid(multiple, grid)) for place, multiple in formula.parts]
    return Formula(on_grid(formula.fixed, grid), [(place, multiple) for place, multiple in parts if multiple.top != 0])
