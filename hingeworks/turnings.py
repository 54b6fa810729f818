"""How near to an input the verdict turns."""

from hingeworks.classes import check_class_model
from hingeworks.errors import BadGiven
from hingeworks.extremes import least_over
from hingeworks.planes import letter_plane, number_plane
from hingeworks.ratios import Ratio, as_ratios, greatest_ratio
from hingeworks.rising import check_measure
from hingeworks.unfolding import unfolded
from hingeworks.working import check_given, worked


class Nearest:
    """The turning distance of an input and its kind, an input that shows it, and papers that it is no less."""

    def __init__(self, kind, distance, given, way, told, papers):
        self.kind = kind
        self.distance = distance
        self.given = given
        self.way = way
        self.told = told
        self.papers = papers


class Middle:
    """An input from which distances are measured."""

    def __init__(self, features, given, measure):
        self.features = features
        self.given = as_ratios(given)
        self.measure = measure
        self.point = features.fractions_of(given)
        self.units = tuple([features.unit(name) for name in features.fractions])

    def distance_of_settings(self, settings):
        """The distance of the input that differs only in having these settings."""
        return measured(self.features, self.given, self.features.input_of(settings, self.point), self.measure)

    def ball_planes(self, reach, settings):
        """The planes that are at least 0 where an input with these settings is no farther than reach.

        The reach is a plane whose first letters are the fractions.
        """
        letters = [letter_plane(place, reach.size) for place in range(len(self.point))]
        gaps = [letter - number_plane(ratio, reach.size) for letter, ratio in zip(letters, self.point)]
        if self.measure == "greatest":
            return [side for gap, unit in zip(gaps, self.units) for side in (reach * unit - gap, reach * unit + gap)]
        planes = [reach - number_plane(self.distance_of_settings(settings), reach.size)]
        for gap, unit in zip(gaps, self.units):
            change = gap * Ratio(1).over(unit)
            planes = [side for plane in planes for side in (plane + change, plane - change)]
        return planes


def nearest(model, given, measure):
    """The nearest turning of the verdict for an input, as a Nearest, or None if the verdict never turns."""
    check_class_model(model)
    check_given(model, given)
    check_measure(measure)
    verdict = worked(model, given).told
    middle = Middle(model.features, given, measure)
    others = [(number, leaf) for number, leaf in enumerate(unfolded(model).leaves) if leaf.told[0] != verdict]
    best = None
    best_leaf = None
    for _, leaf in others:
        extreme = leaf_distance(middle, leaf)
        if best is None or is_nearer(extreme, best):
            best = extreme
            best_leaf = leaf
    if best is None:
        return None
    size = len(middle.point)
    found = model.features.input_of(best_leaf.settings, best.point[:size])
    way = None
    if best.kind == "near":
        way = model.features.input_of([0 for _ in best_leaf.settings], best.way[:size])
    papers = [(number, distance_weights(middle, leaf, best)) for number, leaf in others]
    return Nearest(best.kind, best.value, found, way, best_leaf.told[0], tuple(papers))


def distance_of(features, one, other, measure):
    """The distance of two inputs."""
    if not features.fits(one):
        raise BadGiven("one")
    if not features.fits(other):
        raise BadGiven("other")
    check_measure(measure)
    return measured(features, one, other, measure)


def measured(features, one, other, measure):
    """The distance of two inputs by a measure."""
    changes = []
    for line, here, there in zip(features.lines, as_ratios(one), as_ratios(other)):
        gap = here - there
        changes.append((gap * gap.compared(0)).over(line.measure))
    if measure == "greatest":
        return greatest_ratio(changes)
    total = Ratio(0)
    for change in changes:
        total = total + change
    return total


def leaf_distance(middle, leaf):
    """The least distance of the inputs of a leaf, an Extreme over the fractions and one more letter, the distance."""
    size = len(middle.point)
    distance = letter_plane(size, size + 1)
    bounds = middle.ball_planes(distance, leaf.settings)
    bounds.append(distance - number_plane(middle.distance_of_settings(leaf.settings), size + 1))
    tableau = leaf.tableau.with_letter()
    for plane in bounds:
        tableau = tableau.with_row((plane, False))
    tableau.settle()
    return least_over(distance, tableau)


def is_nearer(one, other):
    """Whether one least distance comes before another one: the lesser one does, and of equal ones one reached."""
    order = one.value.compared(other.value)
    return order < 0 or (order == 0 and one.kind == "reached" and other.kind == "near")


def distance_weights(middle, leaf, best):
    """Weights that show that no input of a leaf is nearer than the turning distance, or None if its settings do."""
    order = middle.distance_of_settings(leaf.settings).compared(best.value)
    if order > 0 or (order == 0 and best.kind == "reached"):
        return None
    ball = middle.ball_planes(number_plane(best.value, len(middle.point)), leaf.settings)
    tableau = leaf.tableau
    for plane in ball:
        tableau = tableau.with_row((plane, best.kind == "reached"))
    at = tableau.settle()
    return tableau.blocked_weights(at)
