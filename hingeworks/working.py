"""Models that are evaluated for an input."""

from hingeworks.errors import BadGiven
from hingeworks.planes import Plane, number_plane
from hingeworks.ratios import as_ratios
from hingeworks.walking import begun


class Worked:
    """What a model tells of an input, the answers of the input, and the results of all lines."""

    def __init__(self, told, answers, results):
        self.told = told
        self.answers = tuple(answers)
        self.results = results


def worked(model, given):
    """The model evaluated for an input."""
    check_given(model, given)
    # Numbers are planes without letters.
    walk = begun(model, [number_plane(ratio, 0) for ratio in given])
    answers = []
    while walk.plane is not None:
        answer = 1 if walk.plane.fixed.top > 0 else 0
        answers.append(answer)
        walk = walk.answered(answer)
    numbers = [told.fixed if isinstance(told, Plane) else told for told in walk.results[len(given):]]
    return Worked(numbers[-1], answers, dict(zip(model.names, numbers)))


def values_at(model, given):
    """The results of all features and lines of a model at an input, each in its place."""
    return [*as_ratios(given), *list(worked(model, given).results.values())]


def check_given(model, given):
    """Refuses any value that is not an input of the model's features."""
    if not model.features.fits(given):
        raise BadGiven("given")
