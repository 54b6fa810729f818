"""Which planes of a heap are kept: those that are greater than all others at some point."""

from math import lcm

from hingeworks.planes import Plane, plane_key
from hingeworks.ratios import Ratio, least_whole
from hingeworks.tableau import Tableau


class Rivals:
    """Some of the planes of a heap, as a place above all of them: its last letter is a height.

    The height is at least each rival; a plane that is above all rivals somewhere is above such a height there.
    """

    def __init__(self, planes, chosen):
        self.planes = planes
        self.chosen = []
        self.tableau = Tableau([], planes[0].size + 1)
        for number in chosen:
            self.take_in(number)

    def take_in(self, number):
        """Makes one more plane a rival."""
        plane = self.planes[number]
        self.chosen.append(number)
        self.tableau = self.tableau.with_row((Plane(-plane.fixed, [*[-slope for slope in plane.slopes], 1]), False))
        self.tableau.settle()

    def point_above(self, number):
        """A point at which a plane is above all rivals, itself left aside, or None."""
        if number in self.chosen:
            others = [other for other in self.chosen if other != number]
            return Rivals(self.planes, others).point_above(number)
        point = self.tableau.point_with(above_row(self.planes[number]))
        return None if point is None else point[:-1]

    def cover_of(self, plane):
        """Weights of the rivals, in the order in which they were taken in, that cover a plane, or None."""
        tableau = self.tableau.with_row(above_row(plane))
        at = tableau.settle()
        # The weight of the plane itself, the last one, is the sum of the others, as it takes their heights away.
        return None if at is None else tableau.blocked_weights(at)[:-1]


def above_row(plane):
    """The row that holds where a plane is above the height."""
    return Plane(plane.fixed, [*plane.slopes, -1]), True


def kept_points(planes):
    """For each plane a point at which it is greater than all unlike planes, or None if it is left out.

    A plane is compared with a few rivals only. At a point at which it is above them, either it is kept, or one of
    the greatest planes there is a further rival.
    """
    points = [None] * len(planes)
    wholes = [whole_plane(plane) for plane in planes]
    numbers = first_numbers(planes)
    rivals = Rivals(planes, [])
    for number in numbers:
        while points[number] is None:
            point = rivals.point_above(number)
            if point is None:
                break
            tops = top_numbers(wholes, numbers, point)
            if len(tops) == 1:
                points[tops[0]] = point
            if tops != [number]:
                rivals.take_in([top for top in tops if top != number][0])
    return points


def first_numbers(planes):
    """The numbers of the planes, of equal ones the first."""
    firsts = {}
    for number, plane in enumerate(planes):
        firsts.setdefault(plane_key(plane), number)
    return list(firsts.values())


def whole_plane(plane):
    """Integers that stand for a plane: a bottom above 0, then the tops of its number and its multiples above it."""
    bottom = plane.fixed.bottom
    for slope in plane.slopes:
        bottom = lcm(bottom, slope.bottom)
    return [bottom, *[ratio.top * (bottom // ratio.bottom) for ratio in (plane.fixed, *plane.slopes)]]


def top_numbers(wholes, numbers, point):
    """Which ones of these planes, told by integers, have the greatest worth at a point, in their order."""
    whole_point = least_whole([Ratio(1), *point])
    tops = []
    top = 0
    top_bottom = 1
    for number in numbers:
        bottom, *shares = wholes[number]
        worth = sum([share * letter for share, letter in zip(shares, whole_point)])
        gap = worth * top_bottom - top * bottom
        if tops == [] or gap > 0:
            tops = [number]
            top = worth
            top_bottom = bottom
        elif gap == 0:
            tops.append(number)
    return tops
