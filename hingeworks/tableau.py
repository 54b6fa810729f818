"""Exact decisions about the rows of a place, by pivots on whole numbers.

The *gauge* of a row is the worth of its least whole row, less the *margin* if the row is strict. The margin
stands for a number above 0 that is smaller than whatever it is compared with; so a number with a share of the
margin is a pair that is compared item by item, and the place has a point just if all gauges can be at least 0.
"""

from hingeworks.planes import scale_of
from hingeworks.ratios import Ratio, least_whole

# A line has the number first, then the share of the margin, then one share for each label on the right.
FIRST_SHARE = 2


class Tableau:
    """Every gauge and letter as a sum of some of them, which all are 0 at the moment.

    Each line times 1 / bottom tells the label on the left by those on the right. The label of the gauge of row k
    is k; the label of letter k is -1 - k. An aim, a plane that is to be raised, is the last line and stays on the
    left; its label is -1 - size. Only labels from 0 on have to be at least 0.
    """

    def __init__(self, rows, size):
        self.size = size
        self.rows = list(rows)
        self.bottom = 1
        self.lines = [first_line(plane, is_strict) for plane, is_strict in rows]
        self.left = list(range(len(self.lines)))
        self.right = [-1 - letter for letter in range(size)]

    def with_row(self, row):
        """A tableau that has one row more; this one stays as it is. There is no aim."""
        made = self.copied()
        made.rows.append(row)
        made.lines.append(self.line_of(row))
        made.left.append(len(self.rows))
        return made

    def with_letter(self):
        """A tableau that has one letter more, the last one, which no row so far has; this one stays as it is."""
        made = self.copied()
        made.size = self.size + 1
        made.lines = [[*line, 0] for line in self.lines]
        made.right.append(-1 - self.size)
        return made

    def with_aim(self, plane):
        """A tableau that has this plane as its aim; this one stays as it is, and has no aim."""
        made = self.copied()
        made.lines.append(self.line_of((plane, False)))
        made.left.append(-1 - self.size)
        return made

    def inside(self):
        """A tableau of the inner points: rows whose planes are not numbers are strict. There is no aim."""
        made = self.copied()
        made.rows = [(plane, is_strict or not plane.is_number) for plane, is_strict in self.rows]
        turned = [before[1] != after[1] for before, after in zip(self.rows, made.rows)]
        made.lines = [self.narrowed_line(line, label, turned) for line, label in zip(self.lines, self.left)]
        return made

    def copied(self):
        """A tableau that is equal to this one. Lines are never changed, so both may have the same ones."""
        made = Tableau([], self.size)
        made.rows = list(self.rows)
        made.bottom = self.bottom
        made.lines = list(self.lines)
        made.left = list(self.left)
        made.right = list(self.right)
        return made

    def line_of(self, row):
        """The line of a further gauge by what is on the right."""
        plane, is_strict = row
        number, margin_share, *shares = first_line(plane, is_strict)
        line = [number * self.bottom, margin_share * self.bottom, *([0] * self.size)]
        for at, label in enumerate(self.right):
            if label < 0:
                line[at + FIRST_SHARE] = shares[-1 - label] * self.bottom
        for label, other in zip(self.left, self.lines):
            if label < 0 and shares[-1 - label] != 0:
                share = shares[-1 - label]
                line = [here + share * there for here, there in zip(line, other)]
        return line

    def narrowed_line(self, line, label, turned):
        """A line if the gauges for which turned is True are less by the margin than before."""
        margin_share = line[1]
        if label >= 0 and turned[label]:
            margin_share = margin_share - self.bottom
        for other, share in zip(self.right, line[FIRST_SHARE:]):
            if other >= 0 and turned[other]:
                margin_share = margin_share + share
        return [line[0], margin_share, *line[FIRST_SHARE:]]

    def settle(self):
        """Brings all gauges to at least 0; returns None, or the place of a line that shows that they cannot be.

        Lowest labels are taken first throughout: this rule of Bland's keeps pivots from going round in a circle.
        """
        while True:
            at = self.short_line()
            if at is None:
                return None
            column = self.raising_column(self.lines[at])
            if column is None:
                return at
            self.pivot(at, column)

    def climb(self):
        """Raises the aim of a settled tableau; returns None at its greatest, or a column that raises it endlessly."""
        while True:
            column = self.raising_column(self.lines[-1])
            if column is None:
                return None
            at = self.stopping_line(column)
            if at is None:
                return column
            self.pivot(at, column)

    def short_line(self):
        """The place of the line of the lowest gauge below 0, or None."""
        found = None
        for at, label in enumerate(self.left):
            line = self.lines[at]
            if label < 0 or line[0] > 0 or (line[0] == 0 and line[1] >= 0):
                continue
            if found is None or label < self.left[found]:
                found = at
        return found

    def raising_column(self, line):
        """The column of the lowest label that can move so that the line rises, or None.

        A gauge that is 0 can only rise, a letter can fall as well.
        """
        found = None
        for at, label in enumerate(self.right):
            share = line[at + FIRST_SHARE]
            if share == 0 or (share < 0 and label >= 0):
                continue
            if found is None or label < self.right[found]:
                found = at
        return None if found is None else found + FIRST_SHARE

    def stopping_line(self, column):
        """The place of the line of the gauge that is the first to be 0 if the column raises the aim, or None."""
        sign = self.raising_sign(column)
        found = None
        for at, label in enumerate(self.left):
            if label < 0 or sign * self.lines[at][column] >= 0:
                continue
            if found is None or self.stops_before(at, found, column):
                found = at
        return found

    def stops_before(self, one, other, column):
        """Whether the line one is 0 before the line other, if both fall by the column."""
        one_line = self.lines[one]
        other_line = self.lines[other]
        one_fall = abs(one_line[column])
        other_fall = abs(other_line[column])
        for item in range(FIRST_SHARE):
            gap = one_line[item] * other_fall - other_line[item] * one_fall
            if gap != 0:
                return gap < 0
        return self.left[one] < self.left[other]

    def raising_sign(self, column):
        """1 if the label of the column has to rise for the aim to rise, -1 if it has to fall."""
        return 1 if self.lines[-1][column] > 0 else -1

    def pivot(self, at, column):
        """Exchanges the label of a line with the label of a column."""
        chosen = self.lines[at]
        turn = chosen[column]
        lines = [exchanged_line(line, chosen, column, self.bottom) for line in self.lines]
        lines[at] = solved_line(chosen, column, self.bottom)
        self.lines = lines
        self.bottom = abs(turn)
        place = column - FIRST_SHARE
        self.left[at], self.right[place] = self.right[place], self.left[at]

    def shares_of_letters(self, column):
        """For each letter the share that its line has in a column, 0 if it has no line."""
        found = [Ratio(0)] * self.size
        for label, line in zip(self.left, self.lines):
            if -1 - self.size < label < 0:
                found[-1 - label] = Ratio(line[column], self.bottom)
        return found

    def vertex(self):
        """The point of the closed place at which a settled tableau is."""
        return tuple(self.shares_of_letters(0))

    def way_in(self):
        """A way from the vertex of a settled tableau into the place."""
        margin = self.room()
        return tuple([share * margin for share in self.shares_of_letters(1)])

    def point_within(self):
        """A point of the place, where the tableau is settled."""
        return tuple([ratio + step for ratio, step in zip(self.vertex(), self.way_in())])

    def point_with(self, row):
        """A point of the place at which one more row holds, or None if there is none; this tableau stays as it is."""
        made = self.with_row(row)
        return made.point_within() if made.settle() is None else None

    def room(self):
        """The greatest number up to 1 that the margin may be, so that all gauges are at least 0."""
        most = Ratio(1)
        for label, line in zip(self.left, self.lines):
            if label >= 0 and line[1] < 0:
                limit = Ratio(line[0], -line[1])
                if limit.under(most):
                    most = limit
        return most

    def way_up(self, column):
        """The way of the letters, if the column raises the aim."""
        way = self.shares_of_letters(column)
        label = self.right[column - FIRST_SHARE]
        if label < 0:
            way[-1 - label] = Ratio(1)
        sign = self.raising_sign(column)
        return tuple([share * sign for share in way])

    def blocked_weights(self, at):
        """Weights of the place that show that the line cannot be brought to 0."""
        weights = self.falling_weights(self.lines[at])
        label = self.left[at]
        weights[label] = scale_of(self.rows[label][0]) * self.bottom
        return least_whole(weights)

    def bound_weights(self, scale):
        """The bottom and the weights that bound the aim, a plane of this scale, where it is greatest."""
        weights = self.falling_weights(self.lines[-1])
        whole = least_whole([scale * self.bottom, *weights])
        return whole[0], whole[1:]

    def falling_weights(self, line):
        """For each row by how much of its plane the line falls, which nothing on the right can raise."""
        weights = [Ratio(0)] * len(self.rows)
        for label, share in zip(self.right, line[FIRST_SHARE:]):
            if label >= 0:
                weights[label] = scale_of(self.rows[label][0]) * -share
        return weights


def first_line(plane, is_strict):
    """The line of a gauge by the letters."""
    return [plane.row[0], -1 if is_strict else 0, *plane.row[1:]]


def exchanged_line(line, chosen, column, bottom):
    """A line behind the pivot on the column of the chosen line.

    Each share is a determinant of whole numbers, so the division leaves no rest.
    """
    turn = chosen[column]
    share = line[column]
    if turn < 0:
        turn = -turn
        share = -share
    fresh = [(turn * here - share * there) // bottom for here, there in zip(line, chosen)]
    fresh[column] = share
    return fresh


def solved_line(chosen, column, bottom):
    """The chosen line behind the pivot: solved for the label that the column had."""
    if chosen[column] > 0:
        fresh = [-share for share in chosen]
        fresh[column] = bottom
        return fresh
    fresh = list(chosen)
    fresh[column] = -bottom
    return fresh
