"""Whether two features may be exchanged without a change of the result."""

from hingeworks.errors import Unlike
from hingeworks.models import check_switches
from hingeworks.twofold import pair_found, unlike_point


def exchanged(model, one, two):
    """An input and its exchanged input that have unlike results, or None if there is none."""
    features = model.features
    if not may_be_exchanged(features.line_of(one), features.line_of(two)):
        raise Unlike("features")
    check_switches(2 * model.switches)
    return pair_found(model, exchange_changes(features, one, two), unlike_point)


def may_be_exchanged(one, two):
    """Whether two features are of one kind and have equal ends and equal units."""
    if one.is_yesno != two.is_yesno or one.measure != two.measure:
        return False
    return one.low_end == two.low_end and one.high_end == two.high_end


def exchange_changes(features, one, two):
    """For each settings the pair of the letters and of those in which two features are exchanged."""
    first = features.names.index(one)
    second = features.names.index(two)
    changes = []
    for settings in features.all_settings():
        letters = features.letters_for(settings)
        swapped = list(letters)
        swapped[first] = letters[second]
        swapped[second] = letters[first]
        changes.append((letters, tuple(swapped)))
    return changes
