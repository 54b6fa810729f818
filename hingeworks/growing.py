"""Trees that are grown from tables."""

from hingeworks.errors import BadNumber, NotFull
from hingeworks.models import Model
from hingeworks.normals import common_bottom, scaled_whole
from hingeworks.ratios import Ratio, is_integer
from hingeworks.writing import learned_name

MOST_DEPTH = 4


class Soil:
    """A table whose numbers are whole: each column of a feature and the labels times a scale.

    `columns` are lists of integers, one for each feature; `labels` are integers, or the places of the classes.
    """

    def __init__(self, table, least):
        inputs = [given for given, _ in table.rows]
        self.table = table
        self.least = least
        self.scales = [common_bottom([given[at] for given in inputs]) for at in range(len(table.features.names))]
        self.columns = [[scaled_whole(given[at], scale) for given in inputs] for at, scale in enumerate(self.scales)]
        labels = [label for _, label in table.rows]
        self.label_scale = common_bottom(labels) if table.tells == "number" else 1
        if table.tells == "number":
            self.labels = [scaled_whole(label, self.label_scale) for label in labels]
        else:
            self.labels = [table.classes.index(label) for label in labels]

    def worth_of(self, numbers):
        """The worth of some rows; that of ratios is times the square of a scale."""
        if self.table.tells == "number":
            total = sum([self.labels[number] for number in numbers])
            return Ratio(total * total, len(numbers))
        return Ratio(sum([many * many for many in self.class_counts(numbers)]), len(numbers))

    def class_counts(self, numbers):
        """How many of the rows have each class of the table."""
        labels = [self.labels[number] for number in numbers]
        return [labels.count(place) for place in range(len(self.table.classes))]

    def best_split(self, numbers):
        """The split of some rows with the greatest gain, if it is above 0: its feature and both branches, or None."""
        best = None
        best_worth = self.worth_of(numbers)
        for at, column in enumerate(self.columns):
            for bound in sorted({column[number]: True for number in numbers})[:-1]:
                low = [number for number in numbers if column[number] <= bound]
                high = [number for number in numbers if column[number] > bound]
                if len(low) >= self.least and len(high) >= self.least:
                    worth = self.worth_of(low) + self.worth_of(high)
                    if best_worth.under(worth):
                        best = (at, bound, low, high)
                        best_worth = worth
        return best

    def grown_lines(self, numbers, depth):
        """The lines of the tree that is grown from some rows."""
        split = self.best_split(numbers) if depth > 0 else None
        if split is None:
            return [self.leaf_line(numbers)]
        at, bound, low, high = split
        line = f"ask {Ratio(-bound, self.scales[at]).written()} {self.table.features.names[at]} 1"
        return [line, *self.grown_lines(low, depth - 1), *self.grown_lines(high, depth - 1)]

    def leaf_line(self, numbers):
        """The line of a leaf."""
        if self.table.tells == "number":
            total = sum([self.labels[number] for number in numbers])
            return f"tell {Ratio(total, self.label_scale * len(numbers)).written()}"
        counts = self.class_counts(numbers)
        return f"class {self.table.classes[counts.index(max(counts))]}"


def grown(table, depth, least):
    """The model of the tree that is grown from a table."""
    if not is_integer(depth) or depth < 0 or depth > MOST_DEPTH:
        raise BadNumber("depth", depth)
    if not is_integer(least) or least < 1:
        raise BadNumber("least", least)
    if len(table.rows) == 0:
        raise NotFull(0)
    lines = Soil(table, least).grown_lines(list(range(len(table.rows))), depth)
    return Model("\n".join([table.features.text, f"tree {learned_name(table.features)}", *lines]))
