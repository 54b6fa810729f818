"""Perceptrons: weights that take a step with each row that errs."""

from hingeworks.errors import BadNumber, TooMany, Unlike
from hingeworks.models import Model
from hingeworks.planes import Plane
from hingeworks.ratios import Ratio, as_ratios, is_ratio, mixed_ratio
from hingeworks.tables import check_row_numbers
from hingeworks.writing import learned_name, plane_text

MOST_STEPS = 2000


class Steps:
    """The first weights and those after each step, and the numbers of the steps that are errors, ascending."""

    def __init__(self, weights, errors):
        self.weights = tuple(weights)
        self.errors = tuple(errors)


def run_perceptron(table, order, start=None):
    """The Steps of a list of row numbers, from some weights or from zeros."""
    check_two_classes(table)
    if len(order) > MOST_STEPS:
        raise TooMany("steps", len(order), MOST_STEPS)
    check_row_numbers(table, order)
    size = len(table.features.names) + 1
    if start is not None and not are_weights(start, size):
        raise BadNumber("start", start)
    rows = signed_rows(table)
    weights = as_ratios([0] * size if start is None else start)
    found = [weights]
    errors = []
    for step, number in enumerate(order):
        if mixed_ratio(Ratio(0), list(zip(weights, rows[number]))).top <= 0:
            weights = tuple([weight + item for weight, item in zip(weights, rows[number])])
            errors.append(step)
        found.append(weights)
    return Steps(found, errors)


def fence_model(table, weights):
    """The model of one sign line with these weights, the number first."""
    check_two_classes(table)
    features = table.features
    if not are_weights(weights, len(features.names) + 1):
        raise BadNumber("weights", weights)
    first, second = table.classes
    text = plane_text(Plane(weights[0], weights[1:]), features.names)
    return Model(f"{features.text}\nsign {learned_name(features)} {first} {second} {text}")


def check_two_classes(table):
    """Refuses a table that has not exactly two classes."""
    if len(table.classes) != 2:
        raise Unlike("classes")


def are_weights(value, size):
    """Whether any value is a list of so many ratios."""
    if not isinstance(value, (tuple, list)) or len(value) != size:
        return False
    return all([is_ratio(weight) for weight in value])


def signed_rows(table):
    """The signed rows of a table of two classes, tuples of Ratios."""
    found = []
    for given, label in table.rows:
        row = (Ratio(1), *given)
        found.append(row if label == table.classes[1] else tuple([-item for item in row]))
    return found
