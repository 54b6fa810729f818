"""Which features a model depends on."""

from hingeworks.models import check_switches
from hingeworks.planes import number_plane
from hingeworks.ratios import Ratio
from hingeworks.twofold import pair_found, setting_changes, unlike_point


def blind_pair(model, name):
    """Two inputs that differ only in the feature and have unlike results, or None if the model is blind to it."""
    model.features.line_of(name)
    check_switches(2 * model.switches)
    if name in model.features.yesnos:
        return pair_found(model, setting_changes(model.features, name), unlike_point)
    return pair_found(model, fixed_changes(model.features, name), unlike_point)


def depends_on(model):
    """The names of all features that the model depends on."""
    return tuple([name for name in model.features.names if blind_pair(model, name) is not None])


def fixed_changes(features, name):
    """For each settings the pair of all letters and of those in which a fraction is one number of its range."""
    at = features.names.index(name)
    fixed = number_plane(number_within(features, name), len(features.fractions))
    changes = []
    for settings in features.all_settings():
        letters = features.letters_for(settings)
        changes.append((letters, (*letters[:at], fixed, *letters[at + 1:])))
    return changes


def number_within(features, name):
    """A number of the range of a feature."""
    for end in (features.low(name), features.high(name)):
        if end is not None:
            return end
    return Ratio(0)
