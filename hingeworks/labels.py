"""What other labels of a table would make of what is learned from it."""

from hingeworks.errors import BadGiven, BadNumber, NotFull, Unlike
from hingeworks.normals import Normal
from hingeworks.ratios import Ratio, as_ratio, as_ratios, ascending, is_ratio, mixed_ratio
from hingeworks.squares import check_pull
from hingeworks.verdicts import most_voted, unlike


class Extent:
    """The least and the greatest score of tables with labels within bounds, and labels that reach them."""

    def __init__(self, least, greatest, least_labels, greatest_labels):
        self.least = as_ratio(least)
        self.greatest = as_ratio(greatest)
        self.least_labels = as_ratios(least_labels)
        self.greatest_labels = as_ratios(greatest_labels)


class Turning:
    """As few rows as possible whose labels alone turn a verdict, and the labels of a table with the other verdict."""

    def __init__(self, rows, labels):
        self.rows = tuple(rows)
        self.labels = tuple(labels)


def label_shares(table, given, pull=0):
    """The share of each label in the score."""
    check_table(table, "number")
    check_input(table, given)
    check_pull(pull)
    return score_shares(table, given, pull)


def extent(table, given, lows, highs, pull=0):
    """The Extent of the score for labels within bounds."""
    check_table(table, "number")
    check_input(table, given)
    check_pull(pull)
    check_bounds(table, lows, highs)
    shares = score_shares(table, given, pull)
    least_labels = end_labels(table, shares, highs, lows)
    greatest_labels = end_labels(table, shares, lows, highs)
    return Extent(score_of(shares, least_labels), score_of(shares, greatest_labels), least_labels, greatest_labels)


def fewest_labels(table, given, ratio, lows, highs, pull=0):
    """The fewest rows whose labels turn the verdict whether the score is at least a ratio, a Turning, or None."""
    check_table(table, "number")
    check_input(table, given)
    check_ratio(ratio)
    check_pull(pull)
    check_bounds(table, lows, highs)
    shares = score_shares(table, given, pull)
    labels = [label for _, label in table.rows]
    verdict = reaches(shares, labels, ratio)
    ends = end_labels(table, shares, highs, lows) if verdict else end_labels(table, shares, lows, highs)
    moves = [share * (end - label) for share, end, label in zip(shares, ends, labels)]
    # The rows that move the score farthest come first.
    signed_moves = [(move if verdict else -move, number) for number, move in enumerate(moves)]
    rows = []
    for _, number in ascending(signed_moves):
        labels[number] = ends[number]
        rows.append(number)
        if reaches(shares, labels, ratio) != verdict:
            return Turning(sorted(rows), labels)
    return None


def fewest_classes(table, given, many):
    """The fewest rows whose classes turn the verdict of the nearest rows, a Turning, or None."""
    check_table(table, "class")
    check_input(table, given)
    # This raises what is wrong with many, and with so many neighbours.
    table.neighbours(many)
    order = near_order(table, given)
    labels = [label for _, label in table.rows]
    verdict = near_class(order, labels, many)
    for number in range(len(labels)):
        for told in table.classes:
            fresh = [*labels[:number], told, *labels[number + 1:]]
            if near_class(order, fresh, many) != verdict:
                return Turning([number], fresh)
    if len(table.classes) == 1:
        return None
    # Two of up to three nearest rows have more votes than the other one.
    other = [told for told in table.classes if told != verdict][0]
    rows = sorted(order[:2])
    return Turning(rows, [other if number in rows else label for number, label in enumerate(labels)])


def check_table(table, kind):
    """Refuses a table whose labels are not of the kind."""
    if table.tells != kind:
        raise Unlike("kind")


def check_input(table, given):
    """Refuses any value that is not an input of the table's features."""
    if not table.features.fits(given):
        raise BadGiven("given")


def check_ratio(ratio):
    """Refuses any value that is not a ratio."""
    if not is_ratio(ratio):
        raise BadNumber("ratio", ratio)


def check_bounds(table, lows, highs):
    """Refuses any values that are not the bounds of all labels."""
    rows = len(table.rows)
    for ends in (lows, highs):
        if not isinstance(ends, (tuple, list)) or len(ends) != rows:
            raise BadNumber("bounds", rows)
    for place, (_, label) in enumerate(table.rows):
        low = lows[place]
        high = highs[place]
        if not is_ratio(low) or not is_ratio(high) or label.under(low) or not label.at_most(high):
            raise BadNumber("bounds", place)


def score_shares(table, given, pull):
    """The share of each label in the score, where all is checked but whether there is one least square line."""
    normal = Normal(table, pull, [as_ratios(given)])
    shares = normal.shares_of_labels()
    if shares is None:
        raise NotFull(normal.column_rank())
    return shares


def score_of(shares, labels):
    """The score of a table with these labels."""
    return mixed_ratio(Ratio(0), list(zip(shares, labels)))


def reaches(shares, labels, ratio):
    """Whether the score of a table with these labels is at least a ratio."""
    return score_of(shares, labels).compared(ratio) >= 0


def end_labels(table, shares, below, above):
    """The labels of a table, moved to these ends where the share is below 0, and to those where it is above 0."""
    found = []
    for number, (_, label) in enumerate(table.rows):
        sign = shares[number].compared(0)
        if sign != 0:
            label = as_ratio(above[number] if sign > 0 else below[number])
        found.append(label)
    return tuple(found)


def near_order(table, given):
    """The numbers of the rows from the nearest one to the farthest one, of equally near ones the earlier first."""
    units = [table.features.unit(name) for name in table.features.names]
    pairs = []
    for number, (row, _) in enumerate(table.rows):
        changes = [(here - there).over(unit) for here, there, unit in zip(as_ratios(given), row, units)]
        pairs.append((mixed_ratio(Ratio(0), [(change, change) for change in changes]), number))
    return [number for _, number in ascending(pairs)]


def near_class(order, labels, many):
    """The class that most of the nearest rows have, of several ones that of the first row; labels are by number."""
    votes = [labels[number] for number in order[:many]]
    return most_voted(votes, unlike([labels[number] for number in sorted(order)]))
