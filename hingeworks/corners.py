"""The corners of places of a few letters.

Here a point is told by integers without a common factor: a bottom above 0, then the top of each letter.
"""

from itertools import combinations
from math import gcd

from hingeworks.errors import TooLarge
from hingeworks.ratios import Ratio

MOST_SIZE = 3


def corners(place):
    """All corners of a place, ascending."""
    if place.size > MOST_SIZE:
        raise TooLarge("letters", place.size, MOST_SIZE)
    found = []
    for whole in meeting_points(unlike_rows(place), place.size):
        if all([sum([share * item for share, item in zip(plane.row, whole)]) >= 0 for plane, _ in place.rows]):
            insert_point(found, whole)
    return tuple([tuple([Ratio(top, whole[0]) for top in whole[1:]]) for whole in found])


def unlike_rows(place):
    """The least whole rows of the planes that are no numbers, one for all that are 0 at the same points."""
    found = {}
    for plane, _ in place.rows:
        if not plane.is_number and (-plane).row not in found:
            found[plane.row] = True
    return list(found)


def meeting_points(rows, size):
    """All points at which as many of these planes as there are letters are 0 and independent, each once."""
    found = {}
    for chosen in combinations(rows, size):
        whole = meeting_point(chosen, size)
        if whole is not None:
            found[whole] = True
    return list(found)


def meeting_point(rows, size):
    """The point at which as many planes as there are letters are 0; None if they are not independent."""
    lines = list(rows)
    for column in range(1, size + 1):
        found = [at for at in range(column - 1, size) if lines[at][column] != 0]
        if found == []:
            return None
        lines[column - 1], lines[found[0]] = lines[found[0]], lines[column - 1]
        chosen = lines[column - 1]
        lines = [line if at == column - 1 else cleared_line(line, chosen, column) for at, line in enumerate(lines)]
    return whole_point([(-line[0], line[at + 1]) for at, line in enumerate(lines)])


def cleared_line(line, chosen, column):
    """A multiple of a line less a multiple of the chosen one, so that its share of a column is 0."""
    return [here * chosen[column] - there * line[column] for here, there in zip(line, chosen)]


def whole_point(pairs):
    """The point of which each letter is a pair of a top and a bottom other than 0."""
    whole = [1]
    for top, bottom in pairs:
        whole = [*[item * bottom for item in whole], top * whole[0]]
    common = 0
    for item in whole:
        common = gcd(common, item)
    if whole[0] < 0:
        common = -common
    return tuple([item // common for item in whole])


def insert_point(points, whole):
    """Puts a point into an ascending list of points in which it does not stand."""
    low = 0
    high = len(points)
    while low < high:
        middle = (low + high) // 2
        if comes_before(points[middle], whole):
            low = middle + 1
        else:
            high = middle
    points.insert(low, whole)


def comes_before(one, other):
    """Whether one point stands before another one in ascending order."""
    for here, there in zip(one[1:], other[1:]):
        gap = here * other[0] - there * one[0]
        if gap != 0:
            return gap < 0
    return False
