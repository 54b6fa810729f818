"""All orders of rows in which a perceptron steps."""

from hingeworks.errors import TooMany
from hingeworks.fences import whole_signed_rows
from hingeworks.perceptrons import check_two_classes
from hingeworks.ratios import Ratio

MOST_WEIGHTS = 300


class Most:
    """The most errors that an order can have, such an order, and pairs of all weights and their heights, ascending."""

    def __init__(self, many, order, heights):
        self.many = many
        self.order = tuple(order)
        self.heights = tuple(heights)


class Endless:
    """An order that leads back to zeros, each step of it an error."""

    def __init__(self, order):
        self.order = tuple(order)


def most_errors(table):
    """The Most errors of all orders, or an Endless order if there is no fence."""
    check_two_classes(table)
    rows, scale = whole_signed_rows(table)
    zeros = tuple([0 for _ in rows[0]])
    steps, ways = reached_weights(rows, zeros)
    for weights, found in steps.items():
        for number, behind in found:
            # Where so few weights can be reached, some ring is laid out among them just if there is no fence.
            if behind == zeros:
                return Endless((*ways[weights], number))
    heights = heights_of(steps)
    pairs = [(tuple([Ratio(item, scale) for item in weights]), heights[weights]) for weights in sorted(heights)]
    return Most(heights[zeros], highest_order(steps, heights, zeros), pairs)


def reached_weights(rows, zeros):
    """For all weights that can be reached their error steps, and the order by which each was reached first.

    Weights are told by whole numbers; steps are lists of pairs of a row number and the weights behind it.
    """
    steps = {}
    ways = {zeros: ()}
    waiting = [zeros]
    while waiting != []:
        later = []
        for weights in waiting:
            steps[weights] = error_steps(rows, weights)
            for number, behind in steps[weights]:
                if behind not in ways:
                    ways[behind] = (*ways[weights], number)
                    later.append(behind)
            if len(ways) > MOST_WEIGHTS:
                raise TooMany("weights", MOST_WEIGHTS + 1, MOST_WEIGHTS)
        waiting = later
    return steps, ways


def error_steps(rows, weights):
    """Pairs of each row that errs at the weights and the weights behind the step."""
    found = []
    for number, row in enumerate(rows):
        if sum([weight * item for weight, item in zip(weights, row)]) <= 0:
            found.append((number, tuple([weight + item for weight, item in zip(weights, row)])))
    return found


def heights_of(steps):
    """The heights of all weights; no steps lead back to where they began."""
    heights = {}
    waiting = list(reversed(list(steps)))
    while waiting != []:
        later = []
        for weights in waiting:
            ends = [behind for _, behind in steps[weights]]
            if all([behind in heights for behind in ends]):
                heights[weights] = max([0, *[heights[behind] + 1 for behind in ends]])
            else:
                later.append(weights)
        waiting = later
    return heights


def highest_order(steps, heights, zeros):
    """An order of as many errors as the height of zeros."""
    order = []
    weights = zeros
    while heights[weights] > 0:
        number, weights = [step for step in steps[weights] if heights[step[1]] == heights[weights] - 1][0]
        order.append(number)
    return order
