"""The equations of least square lines, on whole numbers.

The columns of a table, a column of 1 and one for each feature, are multiplied by a *scale* each, so that they are
whole, and so are the labels. The *square* of some rows has the sums of the products of two columns, with the pull
added, all times the bottom of the pull; its *right* has the sums of the products of a column and the labels.
"""

from math import lcm

from hingeworks.ratios import Ratio, as_ratio


class Normal:
    """The equations of a table and a pull; further inputs are made whole by the same scales."""

    def __init__(self, table, pull, others):
        inputs = [*[given for given, _ in table.rows], *others]
        self.size = len(table.features.names) + 1
        self.scales = [1, *[common_bottom([given[at] for given in inputs]) for at in range(self.size - 1)]]
        wholes = [self.whole_row(given) for given in inputs]
        self.rows = wholes[:len(table.rows)]
        self.others = wholes[len(table.rows):]
        self.label_scale = common_bottom([label for _, label in table.rows])
        self.labels = [scaled_whole(label, self.label_scale) for _, label in table.rows]
        self.pull = as_ratio(pull)

    def whole_row(self, given):
        """The row of an input in the whole columns."""
        return [1, *[scaled_whole(ratio, scale) for ratio, scale in zip(given, self.scales[1:])]]

    def square_of(self, numbers):
        """The square of the rows of these numbers."""
        found = plain_square([self.rows[number] for number in numbers], self.size)
        found = [[item * self.pull.bottom for item in line] for line in found]
        for at in range(1, self.size):
            found[at][at] = found[at][at] + self.pull.top * self.scales[at] * self.scales[at]
        return found

    def right_of(self, numbers):
        """The right of the rows of these numbers."""
        return [sum([self.rows[number][at] * self.labels[number] for number in numbers]) for at in range(self.size)]

    def column_rank(self):
        """The rank of the columns."""
        return rank_of(plain_square(self.rows, self.size))

    def line_multiples(self):
        """The number and the multiples of the least square line, as Ratios, or None if there is none."""
        numbers = list(range(len(self.rows)))
        units = [[1 if at == place else 0 for at in range(self.size)] for place in range(self.size)]
        found = products(units, self.square_of(numbers), [self.right_of(numbers)])
        if found is None:
            return None
        share = Ratio(self.pull.bottom, self.label_scale)
        return [line[0] * share * scale for line, scale in zip(found, self.scales)]

    def shares_of_labels(self):
        """The shares of the labels in what the least square line tells of the first further input, or None."""
        found = products([self.others[0]], self.square_of(list(range(len(self.rows)))), self.rows)
        return None if found is None else tuple([share * self.pull.bottom for share in found[0]])

    def told_by(self, numbers):
        """What the least square line of these rows alone tells of the first further input, or None."""
        found = products([self.others[0]], self.square_of(numbers), [self.right_of(numbers)])
        return None if found is None else found[0][0] * Ratio(self.pull.bottom, self.label_scale)


def common_bottom(ratios):
    """The least integer above 0 that makes all of some Ratios whole."""
    bottom = 1
    for ratio in ratios:
        bottom = lcm(bottom, ratio.bottom)
    return bottom


def scaled_whole(ratio, scale):
    """The integer that a Ratio times a multiple of its bottom is."""
    return ratio.top * (scale // ratio.bottom)


def plain_square(rows, size):
    """The sums of the products of two columns."""
    return [[sum([row[one] * row[other] for row in rows]) for other in range(size)] for one in range(size)]


def rank_of(square):
    """The rank of such a square: where its next item is 0, all that is left of the row and the column is 0, too."""
    rank = 0
    before = 1
    lines = square
    while lines != []:
        if lines[0][0] == 0:
            lines = [line[1:] for line in lines[1:]]
        else:
            rank += 1
            lines, before = cleared(lines, before)
    return rank


def products(lefts, square, rights):
    """The products of each left row, the inverse of the square, and each right column, as Ratios, or None.

    A square of columns is nowhere below 0, so it has no inverse just if an item is 0 by which it is to be cleared.
    """
    lines = [[*line, *[right[at] for right in rights]] for at, line in enumerate(square)]
    lines = [*lines, *[[*left, *[0 for _ in rights]] for left in lefts]]
    before = 1
    for _ in square:
        if lines[0][0] == 0:
            return None
        lines, before = cleared(lines, before)
    return [[Ratio(-item, before) for item in line] for line in lines]


def cleared(lines, before):
    """The lines below the first one without their first items, and the item by which this was done.

    A multiple of the first line is taken away from each. What is left are determinants, so that the division by the
    item of the step before leaves no rest.
    """
    turn, *chosen = lines[0]
    found = []
    for share, *line in lines[1:]:
        found.append([(turn * here - share * there) // before for here, there in zip(line, chosen)])
    return found, turn
