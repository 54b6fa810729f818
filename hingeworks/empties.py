"""Whether a place has a point or an inner point, with the point or with weights that show that it has none."""

from hingeworks.places import Place
from hingeworks.tableau import Tableau


def point_of(place):
    """A point of the place, or None if it has none."""
    tableau = Tableau(place.rows, place.size)
    if tableau.settle() is not None:
        return None
    return tableau.point_within()


def empty_weights(place):
    """Weights that show that the place has no point, or None if it has one."""
    tableau = Tableau(place.rows, place.size)
    at = tableau.settle()
    if at is None:
        return None
    return tableau.blocked_weights(at)


def inner_of(place):
    """An inner point of the place, or None if there is none."""
    return point_of(inside(place))


def flat_weights(place):
    """Weights that show that the place has no inner point, or None if there is one."""
    return empty_weights(inside(place))


def inside(place):
    """The place of the inner points: the rows whose planes are not numbers become strict."""
    return Place([(plane, is_strict or not plane.is_number) for plane, is_strict in place.rows], place.size)
