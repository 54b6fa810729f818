"""The lines of values: what they ask, and the number that they have.

The step of a line takes the results of the features and of all lines before it, planes and classes, and its own
answers so far. It returns the plane of the next switch and None, or None and the result of the line.

The sketch of a line is its text as a list of rows, each a list of items; sketches.py tells what they are. The choices
of a value are Formulas, one of which is the result. The plane shares of a value tell for each of its planes, if
Ratios and classes stand for the letters, how fast the result grows with the plane.
"""

from hingeworks.formulas import number_formula, with_commas
from hingeworks.planes import number_plane
from hingeworks.ratios import Ratio


class Line:
    """What all values and verdicts have; a value has no classes."""

    def __init__(self, name, kind, classes, switches):
        self.name = name
        self.kind = kind
        self.classes = tuple(classes)
        self.switches = switches

    def choice_formulas(self):
        """The choices; a sum and a verdict have none."""
        return []


class SumLine(Line):
    """The result is a plane."""

    def __init__(self, name, formula):
        Line.__init__(self, name, "sum", (), 0)
        self.formula = formula

    def step(self, results, answers):
        """The next switch, or the result."""
        return None, self.formula.plane_for(results)

    def sketch(self):
        """The text as rows of items."""
        return [["sum", self.name, self.formula]]

    def plane_shares(self, values):
        """How fast the result grows with each plane."""
        return [Ratio(1)]


class HingeLine(Line):
    """The plane where it is above 0, elsewhere the plane times the factor: 0 for a hinge, any ratio if leaky."""

    def __init__(self, name, kind, factor, formula):
        Line.__init__(self, name, kind, (), 1)
        self.factor = factor
        self.formula = formula

    def step(self, results, answers):
        """The next switch, or the result."""
        plane = self.formula.plane_for(results)
        if len(answers) == 0:
            return plane, None
        return None, plane if answers[0] == 1 else plane * self.factor

    def sketch(self):
        """The text as rows of items."""
        if self.kind == "hinge":
            return [["hinge", self.name, self.formula]]
        return [["leaky", self.name, self.factor, self.formula]]

    def choice_formulas(self):
        """The choices."""
        return [self.formula.scaled(self.factor), self.formula]

    def plane_shares(self, values):
        """How fast the result grows with each plane."""
        return [Ratio(1) if self.formula.worth_for(values).top > 0 else self.factor]


class ClipLine(Line):
    """The plane, but not below one number and not above another one."""

    def __init__(self, name, low_end, high_end, formula):
        Line.__init__(self, name, "clip", (), 2)
        self.low_end = low_end
        self.high_end = high_end
        self.formula = formula

    def step(self, results, answers):
        """The next switch, or the result."""
        plane = self.formula.plane_for(results)
        low_plane = number_plane(self.low_end, plane.size)
        high_plane = number_plane(self.high_end, plane.size)
        if len(answers) == 0:
            return plane - low_plane, None
        if answers[0] == 0:
            return None, low_plane
        if len(answers) == 1:
            return plane - high_plane, None
        return None, high_plane if answers[1] == 1 else plane

    def sketch(self):
        """The text as rows of items."""
        return [["clip", self.name, self.low_end, self.high_end, self.formula]]

    def choice_formulas(self):
        """The choices."""
        return [number_formula(self.low_end), self.formula, number_formula(self.high_end)]

    def plane_shares(self, values):
        """How fast the result grows with each plane."""
        worth = self.formula.worth_for(values)
        return [Ratio(1 if self.low_end.under(worth) and worth.at_most(self.high_end) else 0)]


class HighestLine(Line):
    """The greatest one of some planes, of equal ones the first."""

    def __init__(self, name, formulas):
        Line.__init__(self, name, "highest", (), len(formulas) - 1)
        self.formulas = tuple(formulas)

    def step(self, results, answers):
        """The next switch, or the result."""
        plane = rival_plane(self.formulas, results, answers)
        if plane is not None:
            return plane, None
        return None, self.formulas[best_place(answers)].plane_for(results)

    def sketch(self):
        """The text as rows of items."""
        return [["highest", self.name, *with_commas([[formula] for formula in self.formulas])]]

    def choice_formulas(self):
        """The choices."""
        return list(self.formulas)

    def plane_shares(self, values):
        """How fast the result grows with each plane."""
        worths = [formula.worth_for(values) for formula in self.formulas]
        best = 0
        for place, worth in enumerate(worths):
            if worths[best].under(worth):
                best = place
        return [Ratio(1 if place == best else 0) for place in range(len(worths))]


def best_place(answers):
    """The place of the best plane behind the answers to the switches of its later rivals."""
    best = 0
    for place, answer in enumerate(answers):
        if answer == 1:
            best = place + 1
    return best


def rival_plane(formulas, results, answers):
    """The switch of the next plane that is compared with the best one, or None if all were."""
    if len(answers) == len(formulas) - 1:
        return None
    best = formulas[best_place(answers)].plane_for(results)
    return formulas[len(answers) + 1].plane_for(results) - best
