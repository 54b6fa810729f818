"""The areas of full leaves over two fractions, and the shares of classes in them."""

from hingeworks.errors import BadNumber, NotPlain, Unlike
from hingeworks.ratios import Ratio, mixed_ratio
from hingeworks.unfolding import unfolded

FRACTIONS = 2


class Area:
    """The number of a full leaf, the corners of its polygon, counterclockwise, and its area."""

    def __init__(self, leaf, corners, area):
        self.leaf = leaf
        self.corners = corners
        self.area = area


def areas(model):
    """The Areas of all full leaves of a model with two fractions that have both ends."""
    check_fractions(model.features)
    return leaf_areas(model.features, unfolded(model).leaves)


def shares(model):
    """A dict from each class to its share of all inputs."""
    if model.tells == "number":
        raise Unlike("kind")
    check_fractions(model.features)
    leaves = unfolded(model).leaves
    whole = area_of(range_corners(model.features)) * len(model.features.all_settings())
    found = {told: Ratio(0) for told in model.classes}
    for part in leaf_areas(model.features, leaves):
        told = leaves[part.leaf].told[0]
        found[told] = found[told] + part.area.over(whole)
    return found


def check_fractions(features):
    """Refuses features that are not two fractions with both ends, yes-or-no features left aside."""
    if len(features.fractions) != FRACTIONS:
        raise BadNumber("fractions", len(features.fractions))
    for name in features.fractions:
        if features.low(name) is None or features.high(name) is None:
            raise NotPlain(name)


def leaf_areas(features, leaves):
    """The Areas of the full ones of these leaves."""
    found = []
    for number, leaf in enumerate(leaves):
        if leaf.is_full:
            corners = range_corners(features)
            for plane, _ in leaf.place.rows:
                corners = cut_corners(corners, plane)
            found.append(Area(number, begun_with_least(corners), area_of(corners)))
    return tuple(found)


def range_corners(features):
    """The corners of the ranges, counterclockwise."""
    x, y = features.fractions
    left, right = features.low(x), features.high(x)
    bottom, top = features.low(y), features.high(y)
    return [(left, bottom), (right, bottom), (right, top), (left, top)]


def cut_corners(corners, plane):
    """The corners of that part of a polygon in which a plane is at least 0.

    The part has an inner point, so no corner of it lies on the line through its neighbors.
    """
    worths = [plane.at(corner) for corner in corners]
    found = []
    for place, corner in enumerate(corners):
        if worths[place].top * worths[place - 1].top < 0:
            found.append(point_between(corners[place - 1], corner, worths[place - 1], worths[place]))
        if worths[place].top >= 0:
            found.append(corner)
    return found


def point_between(one, other, one_worth, other_worth):
    """The point between two others at which a plane is 0 that has these worths, of unlike signs, at the two."""
    share = one_worth.over(one_worth - other_worth)
    return tuple([here + (there - here) * share for here, there in zip(one, other)])


def begun_with_least(corners):
    """The corners in the same order around, from the one with the least x and then the least y on."""
    start = 0
    for place, (x, y) in enumerate(corners):
        order = x.compared(corners[start][0])
        if order < 0 or (order == 0 and y.under(corners[start][1])):
            start = place
    return (*corners[start:], *corners[:start])


def area_of(corners):
    """The area of a polygon whose corners stand counterclockwise."""
    products = []
    for place, (x, y) in enumerate(corners):
        before = corners[place - 1]
        products.extend([(before[0], y), (-x, before[1])])
    return mixed_ratio(Ratio(0), products).over(2)
