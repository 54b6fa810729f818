"""The greatest and the least worth of a plane over a place."""

from hingeworks.errors import EmptyPlace
from hingeworks.planes import check_sizes, scale_of
from hingeworks.ratios import Ratio, as_ratio, as_ratios
from hingeworks.tableau import Tableau


class Extreme:
    """A greatest or least worth: its kind, and what shows it."""

    def __init__(self, kind, value, point, way, weights, bottom):
        self.kind = kind
        self.value = None if value is None else as_ratio(value)
        self.point = as_ratios(point)
        self.way = None if way is None else as_ratios(way)
        self.weights = None if weights is None else tuple(weights)
        self.bottom = bottom


def greatest(plane, place):
    """The greatest worth of the plane over the place."""
    check_sizes(plane, place)
    return greatest_over(plane, settled_tableau(place))


def least(plane, place):
    """The least worth of the plane over the place."""
    check_sizes(plane, place)
    return least_over(plane, settled_tableau(place))


def settled_tableau(place):
    """A settled tableau of a place that has a point."""
    tableau = Tableau(place.rows, place.size)
    if tableau.settle() is not None:
        raise EmptyPlace()
    return tableau


def greatest_over(plane, settled):
    """The greatest worth of the plane over the place of a settled tableau."""
    tableau = settled.with_aim(plane)
    column = tableau.climb()
    if column is not None:
        return Extreme("endless", None, tableau.point_within(), tableau.way_up(column), None, None)
    scale = scale_of(plane)
    number, margin_share = tableau.lines[-1][:2]
    value = Ratio(number, tableau.bottom).over(scale)
    bottom, weights = tableau.bound_weights(scale)
    # The value is lost to a margin, however small, just if a strict row bounds it.
    if margin_share < 0:
        return Extreme("near", value, tableau.vertex(), tableau.way_in(), weights, bottom)
    return Extreme("reached", value, tableau.point_within(), None, weights, bottom)


def least_over(plane, settled):
    """The least worth of the plane over the place of a settled tableau."""
    return turned_extreme(greatest_over(-plane, settled))


def turned_extreme(extreme):
    """The least worth of a plane, from the greatest one of the plane times -1."""
    value = None if extreme.value is None else -extreme.value
    return Extreme(extreme.kind, value, extreme.point, extreme.way, extreme.weights, extreme.bottom)
