"""Number models that are trained by steps."""

from hingeworks.errors import NotPlain, TooMany, Unlike
from hingeworks.formulas import Formula
from hingeworks.ratios import Ratio, as_ratio, on_grid
from hingeworks.rounding import check_grid
from hingeworks.sketches import written_model
from hingeworks.slopes import check_number_model
from hingeworks.squares import check_no_classes
from hingeworks.tables import check_row_numbers
from hingeworks.working import values_at

MOST_TRAINING_STEPS = 100
TRAINABLE = ("sum", "hinge", "leaky", "clip", "highest")


class Descent:
    """A step of training.

    `letters` are the results of all features and lines at its input, `pace` is the rate times the error, and
    `sensitivities` are those of all of these as far as the later lines tell them.
    """

    def __init__(self, letters, pace, grid):
        self.letters = letters
        self.pace = pace
        self.grid = grid
        self.sensitivities = [*[Ratio(0) for _ in letters[1:]], Ratio(1)]

    def trained_row(self, line, place):
        """The row of the line in this place behind the step; the later lines come first."""
        shares = line.plane_shares(self.letters)
        row = []
        for item in line.sketch()[0]:
            if isinstance(item, Formula):
                sensitivity = self.sensitivities[place] * shares.pop(0)
                row.append(self.trained_formula(item, sensitivity))
            else:
                row.append(item)
        return row

    def trained_formula(self, formula, sensitivity):
        """The formula of a plane behind the step, which tells the sensitivities of its letters, too."""
        move = self.pace * sensitivity
        parts = []
        for place, multiple in formula.parts:
            self.sensitivities[place] = self.sensitivities[place] + multiple * sensitivity
            fresh = on_grid(multiple - move * self.letters[place], self.grid)
            if fresh.top != 0:
                parts.append((place, fresh))
        return Formula(on_grid(formula.fixed - move, self.grid), parts)


def trained(model, table, order, rate, grid):
    """The models behind each step with the rows of these numbers."""
    check_number_model(model)
    check_no_classes(table)
    for line in model.lines:
        if line.kind not in TRAINABLE:
            raise NotPlain(line.name)
    if model.features != table.features:
        raise Unlike("features")
    if len(order) > MOST_TRAINING_STEPS:
        raise TooMany("steps", len(order), MOST_TRAINING_STEPS)
    check_row_numbers(table, order)
    check_grid(grid)
    found = []
    for number in order:
        given, label = table.rows[number]
        model = trained_once(model, given, label, as_ratio(rate), grid)
        found.append(model)
    return tuple(found)


def trained_once(model, given, label, rate, grid):
    """The model behind one step."""
    letters = values_at(model, given)
    descent = Descent(letters, rate * (letters[-1] - label), grid)
    first = len(model.features.names)
    rows = []
    for number in reversed(range(len(model.lines))):
        rows = [descent.trained_row(model.lines[number], first + number), *rows]
    return written_model(model, rows)
