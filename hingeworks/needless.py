"""Rows that are needed, and points that one place has beyond another."""

from hingeworks.empties import point_of
from hingeworks.places import Place, opposite
from hingeworks.planes import check_sizes


def needed_rows(place):
    """The numbers of the needed rows, ascending."""
    stay = list(range(len(place.rows)))
    for number in range(len(place.rows)):
        others = [other for other in stay if other != number]
        if is_forced(place.rows[number], Place([place.rows[other] for other in others], place.size)):
            stay = others
    return tuple(stay)


def beyond_point(one, other):
    """A point of the place one that does not belong to the place other, or None."""
    check_sizes(one, other)
    for row in other.rows:
        point = point_of(one.with_rows([opposite(row)]))
        if point is not None:
            return point
    return None


def is_forced(row, place):
    """Whether the row holds at every point of the place."""
    return point_of(place.with_rows([opposite(row)])) is None
