"""Two models, or one model with two changes of its input, compared at all inputs."""

from hingeworks.branching import first_branch, first_told
from hingeworks.errors import Unlike


def check_two(one, other):
    """Refuses two models of unlike features or kinds."""
    if one.features != other.features:
        raise Unlike("features")
    if one.tells != other.tells:
        raise Unlike("kind")


def unlike_point(told, tableau):
    """A point of the place of a settled tableau at which the two results told are unlike, or None."""
    one, other = told
    if isinstance(one, str):
        return tableau.point_within() if one != other else None
    return nonzero_point(one - other, tableau)


def nonzero_point(plane, tableau):
    """A point of the place of a settled tableau at which a plane is not 0, or None."""
    if not any(plane.row):
        return None
    point = tableau.point_with((plane, True))
    return tableau.point_with((-plane, True)) if point is None else point


def greater_point(told, tableau):
    """A point of the place of a settled tableau at which the first of two numbers is greater, or None."""
    one, other = told
    return tableau.point_with((one - other, True))


def input_found(models, judge):
    """An input at a point that judge finds on some leaf of models with equal features, or None.

    The models are unfolded together; judge takes their results on a leaf and the settled tableau of its place.
    """
    features = models[0].features
    rows = features.place_rows()
    for settings in features.all_settings():
        letters = features.letters_for(settings)
        start = first_branch(rows, [(model, letters) for model in models])
        point = first_told(start, lambda branch: judge(branch.walk.told, branch.tableau))
        if point is not None:
            return features.input_of(settings, point)
    return None


def pair_found(model, changes, judge):
    """The two inputs that a pair of letters tells at a point that judge finds, or None.

    The changes are pairs of letters, planes that stand for the features. For each pair the model is unfolded with
    both letters together; judge takes both results on a leaf and the settled tableau of its place.
    """
    rows = model.features.place_rows()
    for one, other in changes:
        start = first_branch(rows, [(model, one), (model, other)])
        point = first_told(start, lambda branch: judge(branch.walk.told, branch.tableau))
        if point is not None:
            return input_at(one, point), input_at(other, point)
    return None


def input_at(letters, point):
    """The input that the letters tell at a point."""
    return tuple([letter.at(point) for letter in letters])


def setting_changes(features, name):
    """For each settings of the other features the pair of letters with 0 and with 1 for a yes-or-no feature."""
    at = features.yesnos.index(name)
    changes = []
    for settings in features.all_settings():
        if settings[at] == 0:
            turned = (*settings[:at], 1, *settings[at + 1:])
            changes.append((features.letters_for(settings), features.letters_for(turned)))
    return changes
