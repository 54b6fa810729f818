"""Places: sets of points that are told by rows."""

from hingeworks.errors import BadPlace
from hingeworks.planes import Plane, check_point, check_size


class Place:
    """The points at which all rows, pairs of a plane and whether it is strict, hold."""

    def __init__(self, rows, size):
        check_size(size)
        for number, row in enumerate(rows):
            if not is_row(row, size):
                raise BadPlace(number)
        self.rows = tuple(rows)
        self.size = size

    def __eq__(self, other):
        return isinstance(other, Place) and self.size == other.size and self.rows == other.rows

    def holds(self, point):
        """Whether the point belongs to the place."""
        check_point(point, self.size)
        return all([row_holds(plane, is_strict, point) for plane, is_strict in self.rows])

    def closed_holds(self, point):
        """Whether the point belongs to the closed place."""
        check_point(point, self.size)
        return all([row_holds(plane, False, point) for plane, _ in self.rows])

    def with_rows(self, rows):
        """The place with these rows behind its own."""
        return Place([*self.rows, *rows], self.size)


def is_row(row, size):
    """Whether any value is a row of this size."""
    if not isinstance(row, tuple) or len(row) != 2:
        return False
    plane, is_strict = row
    return isinstance(plane, Plane) and plane.size == size and isinstance(is_strict, bool)


def row_holds(plane, is_strict, point):
    """Whether a row holds at a point."""
    sign = plane.at(point).compared(0)
    return sign > 0 or (sign == 0 and not is_strict)


def opposite(row):
    """The row that holds just where this one does not."""
    plane, is_strict = row
    return -plane, not is_strict
