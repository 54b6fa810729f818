"""Tables: inputs with labels, from which models are learned."""

from hingeworks.errors import BadNumber, BadTable, TooLarge, TooMany, Unlike
from hingeworks.models import Model, check_switches
from hingeworks.ratios import as_ratio, as_ratios, is_integer, is_ratio
from hingeworks.reading import is_name
from hingeworks.verdicts import unlike
from hingeworks.writing import learned_name

MOST_ROWS = 60
MOST_NEIGHBOURS = 3


class Table:
    """Rows, pairs of an input and its label; the labels are all ratios or all classes."""

    def __init__(self, features, rows):
        if len(rows) > MOST_ROWS:
            raise TooMany("rows", len(rows), MOST_ROWS)
        made = []
        for number, row in enumerate(rows):
            if not is_table_row(features, row) or isinstance(row[1], str) != isinstance(rows[0][1], str):
                raise BadTable(number)
            given, label = row
            made.append((as_ratios(given), label if isinstance(label, str) else as_ratio(label)))
        self.features = features
        self.rows = tuple(made)
        self.classes = unlike([label for _, label in made if isinstance(label, str)])
        self.tells = None
        if made != []:
            self.tells = "number" if self.classes == () else "class"

    def __eq__(self, other):
        return isinstance(other, Table) and self.features == other.features and self.rows == other.rows

    def put_in(self, given, label):
        """The table that has one row more, the last one."""
        return Table(self.features, [*self.rows, (given, label)])

    def taken_out(self, numbers):
        """The table without the rows of these numbers."""
        for place, number in enumerate(numbers):
            if not is_row_number(self, number) or number in numbers[:place]:
                raise BadNumber("row", number)
        return Table(self.features, [row for number, row in enumerate(self.rows) if number not in numbers])

    def neighbours(self, many):
        """The model that tells the class that most of the nearest rows have."""
        if self.tells != "class":
            raise Unlike("kind")
        check_neighbours(many)
        if len(self.rows) < many:
            raise TooLarge("neighbours", many, len(self.rows))
        # The switches of so many rows are counted ahead of any number that is too long to be written.
        check_switches(sum([min(number, many) for number in range(len(self.rows))]))
        pieces = ["near", learned_name(self.features), str(many)]
        for name in self.features.names:
            pieces.extend([name, self.features.unit(name).written()])
        lines = [self.features.text, " ".join(pieces)]
        for given, label in self.rows:
            lines.append(" ".join(["row", label, *[ratio.written() for ratio in given]]))
        return Model("\n".join(lines))


def is_table_row(features, row):
    """Whether any value is a pair of an input of the features and a label."""
    if not isinstance(row, tuple) or len(row) != 2:
        return False
    given, label = row
    return features.fits(given) and (is_ratio(label) or is_name(label))


def is_row_number(table, number):
    """Whether any value is the number of a row of a table."""
    return is_integer(number) and 0 <= number < len(table.rows)


def check_row_numbers(table, numbers):
    """Refuses a list in which an item is not the number of a row."""
    for number in numbers:
        if not is_row_number(table, number):
            raise BadNumber("row", number)


def check_neighbours(many):
    """Refuses any value that is not 1, 2 or 3."""
    if not is_integer(many) or many < 1 or many > MOST_NEIGHBOURS:
        raise BadNumber("many", many)
