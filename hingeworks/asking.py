"""The switch that comes next behind some answers."""

from hingeworks.errors import BadAnswers, BadGiven
from hingeworks.ratios import is_integer
from hingeworks.walking import begun


class Asked:
    """The plane of the next switch, or what the model tells if no switch is left; the other one is None."""

    def __init__(self, plane, told):
        self.plane = plane
        self.told = told


def asked(model, settings, answers):
    """What comes behind some answers under some settings."""
    check_settings(model.features, settings)
    if not isinstance(answers, (tuple, list)):
        raise BadAnswers(0)
    walk = begun(model, model.features.letters_for(settings))
    for place, answer in enumerate(answers):
        if not is_answer(answer) or walk.plane is None:
            raise BadAnswers(place)
        walk = walk.answered(answer)
    return Asked(walk.plane, walk.results[-1] if walk.plane is None else None)


def check_settings(features, settings):
    """Refuses any value that is not settings of the features."""
    if not isinstance(settings, tuple) or len(settings) != len(features.yesnos):
        raise BadGiven("settings")
    if not all([is_answer(setting) for setting in settings]):
        raise BadGiven("settings")


def is_answer(value):
    """Whether any value is the integer 0 or 1."""
    return is_integer(value) and value in (0, 1)
