"""The slopes of number models at an input."""

from hingeworks.errors import BadGiven, Unlike
from hingeworks.planes import Plane
from hingeworks.ratios import as_ratio, as_ratios, is_ratio
from hingeworks.working import check_given, worked


class Jump:
    """An input, a way, and two ratios that differ: what the model tells of the input and what it approaches."""

    def __init__(self, given, way, value, limit):
        self.given = as_ratios(given)
        self.way = as_ratios(way)
        self.value = as_ratio(value)
        self.limit = as_ratio(limit)


def rule_slopes(model, given):
    """The slopes of the result under the answers of an input."""
    check_number_model(model)
    check_given(model, given)
    point = model.features.fractions_of(given)
    letters = model.features.letters_for(model.features.settings_of(given))
    return model.walked(letters, lambda plane: 1 if plane.at(point).top > 0 else 0).slopes


def way_slope(model, given, way):
    """The slope of the model from an input along a way, or a Jump."""
    check_number_model(model)
    check_given(model, given)
    check_way(model.features, given, way)
    # Each plane has one letter: how far it is along the way.
    told = model.walked(moved_letters(model.features, given, way), lambda plane: 1 if rises(plane) else 0)
    value = worked(model, given).told
    if told.fixed == value:
        return told.slopes[0]
    return Jump(given, way, value, told.fixed)


def check_number_model(model):
    """Refuses a model that returns a class."""
    if model.tells == "class":
        raise Unlike("kind")


def check_way(features, given, way):
    """Refuses any value that is not a way, and a way that leads out."""
    if not isinstance(way, tuple) or len(way) != len(features.fractions):
        raise BadGiven("way")
    if not all([is_ratio(step) for step in way]):
        raise BadGiven("way")
    for name, ratio, step in zip(features.fractions, features.fractions_of(given), as_ratios(way)):
        end = features.high(name) if step.top > 0 else features.low(name)
        if step.top != 0 and ratio == end:
            raise BadGiven("way")


def moved_letters(features, given, way):
    """For each feature the plane that it is along the way."""
    steps = list(way)
    letters = []
    for name, ratio in zip(features.names, given):
        step = 0 if name in features.yesnos else steps.pop(0)
        letters.append(Plane(ratio, [step]))
    return tuple(letters)


def rises(plane):
    """Whether a plane of one letter is above 0 behind the point at which the letter is 0."""
    return plane.fixed.top > 0 or (plane.fixed.top == 0 and plane.slopes[0].top > 0)
