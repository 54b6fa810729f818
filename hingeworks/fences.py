"""Fences between the rows of two classes, or rings that show that there is none."""

from itertools import combinations

from hingeworks.empties import empty_weights, point_of
from hingeworks.errors import BadNumber, TooMany
from hingeworks.normals import common_bottom, products, scaled_whole
from hingeworks.perceptrons import MOST_STEPS, check_two_classes, signed_rows
from hingeworks.places import Place
from hingeworks.planes import Plane
from hingeworks.ratios import Ratio, as_ratio, as_ratios, ascending, is_integer, mixed_ratio

MOST_WIDEST_ROWS = 10


class Fence:
    """Weights at which no row errs."""

    def __init__(self, weights):
        self.weights = as_ratios(weights)


class Ring:
    """An integer from 0 on for each row, not all 0; the signed rows, each as often, add up to zeros."""

    def __init__(self, counts):
        self.counts = tuple(counts)


class Widest:
    """The weights of the widest fence, the square of its width, and shares of the rows that show that it is widest."""

    def __init__(self, weights, square, shares):
        self.weights = as_ratios(weights)
        self.square = as_ratio(square)
        self.shares = as_ratios(shares)


def fence(table):
    """A Fence of a table of two classes, or a Ring if there is none."""
    check_two_classes(table)
    rows = [(Plane(0, row), True) for row in signed_rows(table)]
    place = Place(rows, len(table.features.names) + 1)
    weights = point_of(place)
    return Ring(empty_weights(place)) if weights is None else Fence(weights)


def laid_out(table, counts):
    """The rows of a ring in an order in which each step from zeros is an error."""
    check_two_classes(table)
    rows, _ = whole_signed_rows(table)
    if not is_ring(rows, counts):
        raise BadNumber("counts", counts)
    if sum(counts) > MOST_STEPS:
        raise TooMany("steps", sum(counts), MOST_STEPS)
    left = list(counts)
    # The worths of all rows at the weights so far, each of which changes with every step.
    worths = [0 for _ in rows]
    changes = squares_of(rows)
    order = []
    for _ in range(sum(counts)):
        number = [at for at, many in enumerate(left) if many > 0 and worths[at] <= 0][0]
        left[number] -= 1
        worths = [worth + change for worth, change in zip(worths, changes[number])]
        order.append(number)
    return tuple(order)


def widest_fence(table):
    """The Widest fence of a table of two classes, or a Ring if there is none."""
    check_two_classes(table)
    if len(table.rows) > MOST_WIDEST_ROWS:
        raise TooMany("rows", len(table.rows), MOST_WIDEST_ROWS)
    found = fence(table)
    if isinstance(found, Ring):
        return found
    rows, scales = separate_rows(table)
    labels = [label for _, label in table.rows]
    weights, shares = fence_at(rows, scales, [labels.index(told) for told in table.classes])
    product, number = least_product(rows, scales, weights)
    # A row that is too near to the widest fence of a few rows makes it narrower, so this comes to an end.
    while product.under(1):
        weights, shares = widest_with(rows, scales, [at for at, share in enumerate(shares) if share.top > 0], number)
        product, number = least_product(rows, scales, weights)
    length = mixed_ratio(Ratio(0), [(multiple, multiple) for multiple in weights[1:]])
    return Widest(weights, Ratio(1).over(length), shares)


def separate_rows(table):
    """The signed rows of a table, each made whole by an integer above 0 of its own, and these integers."""
    rows = []
    scales = []
    for row in signed_rows(table):
        scale = common_bottom(row)
        rows.append([scaled_whole(item, scale) for item in row])
        scales.append(scale)
    return rows, scales


def least_product(rows, scales, weights):
    """The least product of the weights and a signed row, and the number of this row."""
    pairs = []
    for number, row in enumerate(rows):
        product = mixed_ratio(Ratio(0), [(weight, Ratio(item)) for weight, item in zip(weights, row)])
        pairs.append((product.over(scales[number]), number))
    return ascending(pairs)[0]


def widest_with(rows, scales, support, number):
    """The weights and the shares of the widest fence of some rows and one more row, which has a share in it."""
    chosen = [*support, number]
    for size in range(1, len(support) + 1):
        for numbers in combinations(support, size):
            found = fence_at(rows, scales, [*numbers, number])
            if found is not None:
                kept = [[items[at] for at in chosen] for items in (rows, scales)]
                product, _ = least_product(kept[0], kept[1], found[0])
                if not product.under(1):
                    return found
    return None


def fence_at(rows, scales, numbers):
    """The weights, and the shares of all rows, if these rows alone have a share and products of 1, or None.

    With G the products of their signed rows, y their signs, and b the number of the fence, the shares are those s for
    which G * s is 1 - b * y, and for which the sum of y * s is 0. Here each row is whole by its own scale.
    """
    chosen = [rows[number] for number in numbers]
    ones = [scales[number] for number in numbers]
    signs = [row[0] for row in chosen]
    units = [[1 if at == place else 0 for at in range(len(chosen))] for place in range(len(chosen))]
    found = products([signs, *units], squares_of(chosen), [ones, signs])
    if found is None:
        return None
    fixed = found[0][0].over(found[0][1])
    parts = [line[0] - fixed * line[1] for line in found[1:]]
    if any([part.top < 0 for part in parts]):
        return None
    shares = [Ratio(0) for _ in rows]
    for number, part in zip(numbers, parts):
        shares[number] = part * scales[number]
    slopes = []
    for at in range(1, len(rows[0])):
        slopes.append(mixed_ratio(Ratio(0), [(part, Ratio(row[at])) for part, row in zip(parts, chosen)]))
    return (fixed, *slopes), tuple(shares)


def whole_signed_rows(table):
    """The signed rows of a table times an integer above 0 that makes them whole, and this integer."""
    rows = signed_rows(table)
    scale = common_bottom([item for row in rows for item in row])
    return [[scaled_whole(item, scale) for item in row] for row in rows], scale


def squares_of(rows):
    """For each row the list of the sums of its products with all rows."""
    return [[sum([here * there for here, there in zip(one, other)]) for other in rows] for one in rows]


def is_ring(rows, counts):
    """Whether any value is a list of integers from 0 on, not all 0, that many times the rows add up to zeros."""
    if not isinstance(counts, (tuple, list)) or len(counts) != len(rows):
        return False
    if not all([is_integer(count) and count >= 0 for count in counts]) or not any(counts):
        return False
    totals = [sum([count * row[at] for count, row in zip(counts, rows)]) for at in range(len(rows[0]))]
    return not any(totals)
