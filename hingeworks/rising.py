"""Whether number models rise in a feature, and how steep they are."""

from hingeworks.continuous import found_jump
from hingeworks.errors import NotContinuous, Unlike
from hingeworks.models import check_switches
from hingeworks.ratios import Ratio
from hingeworks.rims import rims
from hingeworks.slopes import check_number_model
from hingeworks.twofold import greater_point, pair_found, setting_changes
from hingeworks.unfolding import unfolded

MEASURES = ("greatest", "sum")


class Steep:
    """The steepness of a model, and two inputs that show it, both None if it is 0."""

    def __init__(self, worth, first, second):
        self.worth = worth
        self.first = first
        self.second = second


def falling_pair(model, name):
    """Two inputs that differ only in the feature, of which the lesser one has the greater value, or None."""
    check_number_model(model)
    features = model.features
    features.line_of(name)
    if name in features.yesnos:
        check_switches(2 * model.switches)
        return pair_found(model, setting_changes(features, name), greater_point)
    at = features.fractions.index(name)
    way = [Ratio(1 if place == at else 0) for place in range(len(features.fractions))]
    for leaf in continuous_leaves(model):
        if leaf.is_full and leaf.told[0].slopes[at].top < 0:
            return inputs_along(features, leaf, way)
    return None


def steepest(model, measure):
    """The steepness of a continuous number model, as a Steep."""
    check_number_model(model)
    check_measure(measure)
    features = model.features
    units = [features.unit(name) for name in features.fractions]
    best = Steep(Ratio(0), None, None)
    for leaf in continuous_leaves(model):
        slopes = [slope * unit for slope, unit in zip(leaf.told[0].slopes, units)]
        signs = steep_signs(slopes, measure)
        worth = Ratio(0)
        for sign, slope in zip(signs, slopes):
            worth = worth + slope * sign
        if leaf.is_full and best.worth.under(worth):
            first, second = inputs_along(features, leaf, [unit * sign for sign, unit in zip(signs, units)])
            best = Steep(worth, first, second)
    return best


def check_measure(measure):
    """Refuses any value that is no measure of distances."""
    if measure not in MEASURES:
        raise Unlike("measure")


def continuous_leaves(model):
    """The leaves of a model that has no jump."""
    unfolding = unfolded(model)
    if found_jump(model, unfolding.leaves, rims(unfolding)) is not None:
        raise NotContinuous()
    return unfolding.leaves


def steep_signs(slopes, measure):
    """For each slope, in units, the sign with which its feature changes on the steepest way.

    For the greatest change all features change alike; for the sum the one of the steepest slope alone does.
    """
    signs = [slope.compared(0) for slope in slopes]
    if measure == "greatest":
        return signs
    steepest_place = 0
    for place, slope in enumerate(slopes):
        if (slopes[steepest_place] * signs[steepest_place]).under(slope * signs[place]):
            steepest_place = place
    return [sign if place == steepest_place else 0 for place, sign in enumerate(signs)]


def inputs_along(features, leaf, way):
    """The input of a full leaf's point, and one of the same leaf behind it along a way."""
    step = step_within(leaf, way)
    end = [ratio + share * step for ratio, share in zip(leaf.point, way)]
    return features.input_of(leaf.settings, leaf.point), features.input_of(leaf.settings, end)


def step_within(leaf, way):
    """A number above 0 so that the full leaf's point, moved by as many times the way, is in its place, too."""
    most = Ratio(1)
    for plane, _ in leaf.place.rows:
        fall = plane.fixed - plane.at(way)
        if fall.top > 0:
            most = least_ratio(most, plane.at(leaf.point).over(fall * 2))
    return most


def least_ratio(one, other):
    """The lesser one of two ratios."""
    return one if one.under(other) else other
