"""What is learned without some of the rows."""

from itertools import combinations

from hingeworks.errors import BadNumber, NotFull, TooMany, Unlike
from hingeworks.labels import check_input, check_ratio, check_table, near_class, near_order
from hingeworks.normals import Normal
from hingeworks.ratios import as_ratios, is_integer
from hingeworks.squares import check_pull
from hingeworks.tables import check_neighbours

MOST_LOT_ROWS = 12
FORMS = (("straight", 3), ("near", 2))


class Lots:
    """All lots that turn the verdict, and all dull ones."""

    def __init__(self, turning, dull):
        self.turning = tuple(turning)
        self.dull = tuple(dull)


class StraightLearner:
    """Whether the score for an input is at least a ratio, learned from some rows of a table."""

    def __init__(self, table, given, ratio, pull):
        self.normal = Normal(table, pull, [as_ratios(given)])
        self.ratio = ratio

    def verdict(self, numbers):
        """The verdict learned from the rows of these numbers alone, or None if nothing can be learned from them."""
        score = self.normal.told_by(numbers)
        return None if score is None else score.compared(self.ratio) >= 0


class NearLearner:
    """The class of the nearest rows to an input, learned from some rows of a table."""

    def __init__(self, table, given, many):
        self.labels = [label for _, label in table.rows]
        self.order = near_order(table, given)
        self.many = many

    def verdict(self, numbers):
        """The verdict learned from the rows of these numbers alone, or None if nothing can be learned from them."""
        if len(numbers) < self.many:
            return None
        return near_class([number for number in self.order if number in numbers], self.labels, self.many)


def verdict_of(table, given, learner):
    """The verdict for an input, learned from the whole table."""
    check_learner(table, given, learner)
    check_items(learner)
    return whole_verdict(table, made_learner(table, given, learner), learner)


def lots(table, given, most, learner):
    """The Lots of up to most rows."""
    check_learner(table, given, learner)
    check_items(learner)
    if not is_integer(most) or most < 1:
        raise BadNumber("most", most)
    check_rows(table)
    made = made_learner(table, given, learner)
    verdict = whole_verdict(table, made, learner)
    turning = []
    dull = []
    for size in range(1, min(most, len(table.rows)) + 1):
        for lot in combinations(range(len(table.rows)), size):
            other = made.verdict(rows_without(table, lot))
            if other is None:
                dull.append(lot)
            elif other != verdict:
                turning.append(lot)
    return Lots(turning, dull)


def least_lot(table, given, learner):
    """The first lot that turns the verdict, or None."""
    check_learner(table, given, learner)
    check_items(learner)
    check_rows(table)
    made = made_learner(table, given, learner)
    verdict = whole_verdict(table, made, learner)
    for size in range(1, len(table.rows) + 1):
        for lot in combinations(range(len(table.rows)), size):
            other = made.verdict(rows_without(table, lot))
            if other is not None and other != verdict:
                return lot
    return None


def check_learner(table, given, learner):
    """Refuses any value that is no learner, a table that is not of its kind, and any value that is no input."""
    if not isinstance(learner, tuple) or len(learner) == 0 or (learner[0], len(learner)) not in FORMS:
        raise Unlike("learner")
    check_table(table, "number" if learner[0] == "straight" else "class")
    check_input(table, given)


def check_items(learner):
    """Refuses items of a learner that are not the numbers that are asked for."""
    if learner[0] == "straight":
        check_ratio(learner[1])
        check_pull(learner[2])
    else:
        check_neighbours(learner[1])


def check_rows(table):
    """Refuses a table with more rows than all lots are asked for."""
    if len(table.rows) > MOST_LOT_ROWS:
        raise TooMany("rows", len(table.rows), MOST_LOT_ROWS)


def made_learner(table, given, learner):
    """The object that learns from some rows of the table."""
    if learner[0] == "straight":
        return StraightLearner(table, given, learner[1], learner[2])
    return NearLearner(table, given, learner[1])


def whole_verdict(table, made, learner):
    """The verdict that is learned from the whole table, if one can be learned."""
    if learner[0] == "near":
        table.neighbours(learner[1])
    verdict = made.verdict(list(range(len(table.rows))))
    if verdict is None:
        raise NotFull(made.normal.column_rank())
    return verdict


def rows_without(table, lot):
    """The numbers of the rows that are not in a lot."""
    return [number for number in range(len(table.rows)) if number not in lot]
