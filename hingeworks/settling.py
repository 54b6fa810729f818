"""Values that are equal to one of their choices for every input, and hinges that are multiples of others."""

from hingeworks.formulas import number_formula
from hingeworks.parts import unequal_input
from hingeworks.ratios import Ratio
from hingeworks.working import values_at


class FreeHinge:
    """A hinge that is not settled, told by its place and its Formula.

    `on_values` are the results of all letters at an input where its plane is above 0, `off_values` at one where it
    is below 0.
    """

    def __init__(self, place, formula, on_values, off_values):
        self.place = place
        self.formula = formula
        self.on_values = on_values
        self.off_values = off_values


def settled(model):
    """Pairs of the names of all settled values and the number of the first choice that settles each."""
    first = len(model.features.names)
    found = []
    for number, line in enumerate(model.lines):
        choice = settling_choice(model, first + number, line.choice_formulas())
        if choice is not None:
            found.append((line.name, choice))
    return tuple(found)


def twins(model):
    """Triples of the name of each hinge that is a twin of an earlier one, the name of the first such one, the ratio."""
    first = len(model.features.names)
    hinges = free_hinges(model)
    found = []
    for number, hinge in enumerate(hinges):
        for other in hinges[:number]:
            ratio = twin_ratio(model, other, hinge)
            if ratio is not None:
                found.append((model.names[hinge.place - first], model.names[other.place - first], ratio))
                break
    return tuple(found)


def twin_formula(place, formula, ratio):
    """The formula of a twin with this ratio of the hinge in this place, whose formula is told."""
    if ratio.top > 0:
        return number_formula(Ratio(0)).with_part(place, ratio)
    return formula.scaled(ratio).with_part(place, -ratio)


def settling_choice(model, place, choices):
    """The number of the first one of the choices that settles the value in this place, or None."""
    for number, choice in enumerate(choices):
        if unequal_input(model, place, choice) is None:
            return number
    return None


def free_hinges(model):
    """All hinges that are not settled, in their order."""
    found = []
    for number, line in enumerate(model.lines):
        if line.kind == "hinge":
            place = len(model.features.names) + number
            given = [unequal_input(model, place, choice) for choice in line.choice_formulas()]
            if None not in given:
                on_values, off_values = [values_at(model, one) for one in given]
                found.append(FreeHinge(place, line.formula, on_values, off_values))
    return found


def twin_ratio(model, one, other):
    """The ratio with which the hinge other is a twin of the earlier hinge one, or None.

    At most one ratio fits to the two inputs of the hinge one.
    """
    on_worth = one.on_values[other.place]
    off_worth = one.off_values[other.place]
    if on_worth.top > 0 and off_worth.top == 0:
        ratio = on_worth.over(one.on_values[one.place])
    elif on_worth.top == 0 and off_worth.top > 0:
        ratio = off_worth.over(one.formula.worth_for(one.off_values))
    else:
        return None
    formula = twin_formula(one.place, one.formula, ratio)
    return ratio if unequal_input(model, other.place, formula) is None else None
