"""Tables for the tests, and what is learned from them worked out with Fractions alone."""

from fractions import Fraction
from itertools import combinations

from checking import fractions, ratio
from hingeworks.features import Features
from hingeworks.tables import Table
from reference import Text

SIX = "\n".join(f"fraction {name}" for name in "uvwxyz")


def table(features, *rows):
    """A table of rows (numbers .., label)."""
    made = []
    for *given, label in rows:
        made.append((tuple(ratio(item) for item in given), label if isinstance(label, str) else ratio(label)))
    return Table(Features(features), made)


def rows_of(one):
    """The rows of a table as pairs of a tuple of Fractions and a Fraction or a class."""
    return [(fractions(given), label if isinstance(label, str) else Fraction(label.top, label.bottom)) for given, label in one.rows]


def random_number(rng, size=4):
    return Fraction(rng.randint(-size, size), rng.choice([1, 1, 1, 2, 3]))


def random_given(rng, features, size=4):
    """An input of features whose fractions have no ends."""
    names = [row.split(" ")[0] for row in features.split("\n")]
    return [rng.randint(0, 1) if word == "yesno" else random_number(rng, size) for word in names]


def random_table(rng, features, many, labels, size=4):
    """A table of so many rows; labels are a list of classes, or None for ratios."""
    rows = []
    for _ in range(many):
        label = random_number(rng, size) if labels is None else rng.choice(labels)
        rows.append((*random_given(rng, features, size), label))
    return table(features, *rows)


def signed(rows):
    """The signed rows of rows with two classes."""
    first = rows[0][1]
    return [tuple((-1 if label == first else 1) * item for item in (1, *given)) for given, label in rows]


def product(one, other):
    return sum((here * there for here, there in zip(one, other)), Fraction(0))


def added(one, other):
    return tuple(here + there for here, there in zip(one, other))


def solved(lines):
    """The solution of linear equations, each a list of factors with the right side last; None if it is not unique."""
    lines = [[Fraction(item) for item in line] for line in lines]
    size = len(lines[0]) - 1
    for column in range(size):
        found = [at for at in range(column, len(lines)) if lines[at][column] != 0]
        if not found:
            return None
        lines[column], lines[found[0]] = lines[found[0]], lines[column]
        lines[column] = [item / lines[column][column] for item in lines[column]]
        for at, line in enumerate(lines):
            if at != column:
                lines[at] = [here - line[column] * there for here, there in zip(line, lines[column])]
    return [line[-1] for line in lines[:size]]


def rank(rows):
    """The rank of rows of Fractions."""
    left = [list(row) for row in rows]
    found = 0
    for column in range(len(left[0]) if left else 0):
        chosen = [row for row in left if row[column] != 0]
        if chosen:
            found += 1
            first = chosen[0]
            left = [[here - row[column] / first[column] * there for here, there in zip(row, first)] for row in left if row is not first]
    return found


def square_line(rows, pull):
    """The number and the multiples of the least square line of rows, or None."""
    if not rows:
        return None
    inputs = [(Fraction(1), *given) for given, _ in rows]
    size = len(inputs[0])
    lines = []
    for one in range(size):
        line = [sum(row[one] * row[other] for row in inputs) for other in range(size)]
        if one > 0:
            line[one] += pull
        lines.append([*line, sum(row[one] * label for row, (_, label) in zip(inputs, rows))])
    return solved(lines)


def near_class(features, rows, given, many):
    """The class that the many nearest rows vote for, as [22] tells it, with the units of a text of features."""
    taken = Text(features)
    units = [taken.end(name, "by") or Fraction(1) for name in taken.names]

    def distance(row):
        return sum((((here - there) / unit) ** 2 for here, there, unit in zip(row, given, units)), Fraction(0))

    order = sorted(range(len(rows)), key=lambda at: (distance(rows[at][0]), at))[:many]
    votes = [rows[at][1] for at in order]
    classes = list(dict.fromkeys(label for _, label in rows))
    return max(classes, key=lambda told: (votes.count(told), -classes.index(told)))


def subsets(many):
    """All sets of so many places, by size and then ascending."""
    return [part for size in range(many + 1) for part in combinations(range(many), size)]
