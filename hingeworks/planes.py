"""Planes: linear expressions in numbered letters."""

from hingeworks.errors import BadGiven, BadNumber
from hingeworks.ratios import Ratio, as_ratio, as_ratios, is_integer, is_ratio, least_whole, mixed_ratio


class Plane:
    """A number plus a multiple of each letter."""

    def __init__(self, fixed, slopes):
        if not is_ratio(fixed):
            raise BadNumber("fixed", fixed)
        for slope in slopes:
            if not is_ratio(slope):
                raise BadNumber("slope", slope)
        self.fixed = as_ratio(fixed)
        self.slopes = as_ratios(slopes)
        self.size = len(self.slopes)
        self.is_number = all([slope.top == 0 for slope in self.slopes])
        self.row = least_whole([self.fixed, *self.slopes])

    def __eq__(self, other):
        return isinstance(other, Plane) and self.fixed == other.fixed and self.slopes == other.slopes

    def __add__(self, other):
        if not isinstance(other, Plane):
            return NotImplemented
        check_sizes(self, other)
        return Plane(self.fixed + other.fixed, [one + two for one, two in zip(self.slopes, other.slopes)])

    def __sub__(self, other):
        if not isinstance(other, Plane):
            return NotImplemented
        check_sizes(self, other)
        return Plane(self.fixed - other.fixed, [one - two for one, two in zip(self.slopes, other.slopes)])

    def __mul__(self, other):
        if not is_ratio(other):
            return NotImplemented
        return Plane(self.fixed * other, [slope * other for slope in self.slopes])

    def __neg__(self):
        return Plane(-self.fixed, [-slope for slope in self.slopes])

    def at(self, point):
        """The worth at a point, a Ratio."""
        check_point(point, self.size)
        return mixed_ratio(self.fixed, list(zip(self.slopes, as_ratios(point))))

    def put_in(self, place, ratio):
        """The plane of size one less in which the letter with this index is this ratio."""
        check_place(place, self.size)
        if not is_ratio(ratio):
            raise BadNumber("fixed", ratio)
        return Plane(self.fixed + self.slopes[place] * ratio, [*self.slopes[:place], *self.slopes[place + 1:]])


def number_plane(ratio, size):
    """The plane of this size that is this number."""
    check_size(size)
    return Plane(ratio, [0] * size)


def letter_plane(place, size):
    """The plane of this size that is the letter with this index."""
    check_size(size)
    check_place(place, size)
    return Plane(0, [1 if at == place else 0 for at in range(size)])


def mixed_plane(fixed, pairs, size):
    """The plane of this size that is the number plus the sum of the pairs, a ratio times a plane each."""
    terms = [(ratio, plane) for ratio, plane in pairs if ratio.top != 0]
    slopes = [mixed_ratio(Ratio(0), [(ratio, plane.slopes[at]) for ratio, plane in terms]) for at in range(size)]
    return Plane(mixed_ratio(fixed, [(ratio, plane.fixed) for ratio, plane in terms]), slopes)


def scale_of(plane):
    """The ratio above 0 by which the plane becomes its least whole row."""
    for ratio, whole in zip([plane.fixed, *plane.slopes], plane.row):
        if whole != 0:
            return Ratio(whole).over(ratio)
    return Ratio(1)


def plane_key(plane):
    """Integers that are the same just for equal planes."""
    return tuple([whole for ratio in (plane.fixed, *plane.slopes) for whole in (ratio.top, ratio.bottom)])


def hyperplane_row(plane):
    """The row of the hyperplane at which a plane that is not a number is 0: the first slope but 0 is above 0."""
    leading = [slope for slope in plane.row[1:] if slope != 0][0]
    return plane.row if leading > 0 else tuple([-whole for whole in plane.row])


def row_plane(row):
    """The plane whose number and multiples are the integers of a row."""
    return Plane(row[0], row[1:])


def check_size(size):
    """Refuses any value that is not the size of a plane."""
    if not is_integer(size) or size < 0:
        raise BadNumber("size", size)


def check_sizes(one, other):
    """Refuses two planes or places of unlike sizes."""
    if one.size != other.size:
        raise BadNumber("size", other.size)


def check_place(place, size):
    """Refuses any value that is not the index of a letter."""
    if not is_integer(place) or place < 0 or place >= size:
        raise BadNumber("place", place)


def check_point(point, size):
    """Refuses any value that is not a tuple or list of as many ratios as the size."""
    if not isinstance(point, (tuple, list)) or len(point) != size:
        raise BadGiven("point")
    if not all([is_ratio(ratio) for ratio in point]):
        raise BadGiven("point")
