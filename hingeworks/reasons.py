"""Which features alone fix a verdict, and which ones turn it."""

from itertools import combinations

from hingeworks.branching import first_branch, first_told
from hingeworks.classes import check_class_model
from hingeworks.empties import empty_weights
from hingeworks.errors import BadName, BadNumber, TooLarge
from hingeworks.models import MOST_SWITCHES, Model
from hingeworks.parsing import MOST_LINES
from hingeworks.places import Place
from hingeworks.ratios import as_ratio, is_ratio
from hingeworks.slopes import check_number_model
from hingeworks.twofold import input_at
from hingeworks.unfolding import unfolded
from hingeworks.working import check_given, worked
from hingeworks.writing import fresh_names


class Reasons:
    """All least enough sets and all least turning sets, by size and then by the places of their features."""

    def __init__(self, enough, turning):
        self.enough = enough
        self.turning = turning


def at_least(model, ratio):
    """The model that returns yes where a number model is at least a ratio, elsewhere no."""
    check_number_model(model)
    if not is_ratio(ratio):
        raise BadNumber("ratio", ratio)
    if len(model.names) == MOST_LINES:
        raise TooLarge("lines", MOST_LINES + 1, MOST_LINES)
    if model.switches == MOST_SWITCHES:
        raise TooLarge("switches", MOST_SWITCHES + 1, MOST_SWITCHES)
    words = [word for line in model.text.split("\n") for word in line.split(" ")]
    name = fresh_names(["sign", "yes", "no", *words], 1)[0]
    return Model(f"{model.text}\nsign {name} yes no {as_ratio(ratio).written()} {model.names[-1]} -1")


def reasons(model, given):
    """The Reasons of the verdict for an input."""
    check_verdict(model, given)
    names = model.features.names
    turning = least_turning_sets(model, given)
    enough = least_meeting_sets(turning, len(names))
    return Reasons(named_sets(enough, names), named_sets(turning, names))


def enough_papers(model, given, names):
    """For each leaf of another class its number, and weights or None, if the set is enough; otherwise None."""
    check_verdict(model, given)
    check_names(model.features, names)
    verdict = worked(model, given).told
    papers = []
    for number, leaf in enumerate(unfolded(model).leaves):
        if leaf.told[0] != verdict:
            weights = None
            if not parts_settings(model.features, given, names, leaf.settings):
                weights = empty_weights(place_under(model.features, given, names, leaf.place.rows))
                if weights is None:
                    return None
            papers.append((number, weights))
    return tuple(papers)


def turned(model, given, names):
    """An input of another verdict that agrees with the given one in all features outside the set, or None."""
    check_verdict(model, given)
    check_names(model.features, names)
    return turned_input(model, given, names)


def check_verdict(model, given):
    """Refuses a model that returns a number, and any value that is not an input of its features."""
    check_class_model(model)
    check_given(model, given)


def check_names(features, names):
    """Refuses names that are no features, and a name that stands twice."""
    for name in names:
        features.line_of(name)
    for place, name in enumerate(names):
        if name in names[:place]:
            raise BadName(name)


def named_sets(sets, names):
    """The tuples of places as tuples of names."""
    return tuple([tuple([names[place] for place in places]) for places in sets])


def least_turning_sets(model, given):
    """The least turning sets as tuples of places, by size and then by places."""
    names = model.features.names
    if turned_input(model, given, names) is None:
        return []
    found = []
    for places in place_sets(len(names)):
        if not any([holds_all(places, part) for part in found]):
            if turned_input(model, given, [names[place] for place in places]) is not None:
                found.append(places)
    return found


def least_meeting_sets(sets, many):
    """The least sets of places that share one with each of these sets, by size and then by places."""
    found = []
    for places in place_sets(many):
        meets = all([any([place in part for place in places]) for part in sets])
        if meets and not any([holds_all(places, part) for part in found]):
            found.append(places)
    return found


def place_sets(many):
    """All sets of this many places as tuples, by size and then by places."""
    found = []
    for size in range(many + 1):
        found.extend(list(combinations(range(many), size)))
    return found


def holds_all(places, part):
    """Whether all places of a part stand among the places."""
    return all([place in places for place in part])


def turned_input(model, given, free):
    """An input of another verdict that agrees with the given one in all but the free features, or None."""
    features = model.features
    verdict = worked(model, given).told
    fixed = [name for name in features.names if name not in free]
    rows = place_under(features, given, fixed, features.place_rows()).rows
    for settings in features.all_settings():
        if not parts_settings(features, given, fixed, settings):
            letters = [plane_under(features, given, fixed, letter) for letter in features.letters_for(settings)]
            start = first_branch(rows, [(model, letters)])
            point = first_told(start, lambda branch: turned_point(branch, verdict))
            if point is not None:
                return input_at(letters, point)
    return None


def turned_point(branch, verdict):
    """A point of a complete branch of another class, or None."""
    return branch.tableau.point_within() if branch.walk.told[0] != verdict else None


def parts_settings(features, given, names, settings):
    """Whether settings differ from those of the input in a yes-or-no feature among these names."""
    own = features.settings_of(given)
    return any([one != other and name in names for name, one, other in zip(features.yesnos, settings, own)])


def place_under(features, given, names, rows):
    """The place of these rows, in which the fractions among these names are the ratios of the input."""
    size = len([name for name in features.fractions if name not in names])
    return Place([(plane_under(features, given, names, plane), is_strict) for plane, is_strict in rows], size)


def plane_under(features, given, names, plane):
    """A plane, in which the fractions among these names are the ratios of the input."""
    for place, ratio in reversed(list(enumerate(features.fractions_of(given)))):
        if features.fractions[place] in names:
            plane = plane.put_in(place, ratio)
    return plane
