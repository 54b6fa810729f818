"""All leaves of one or more models, and weights for the answers that no input gives."""

from hingeworks.branching import first_branch
from hingeworks.errors import Unlike
from hingeworks.models import check_switches
from hingeworks.places import Place


class Leaf:
    """Settings and a complete row of answers that some input gives.

    `tableau` is the settled tableau of its place, on which further questions begin.
    """

    def __init__(self, settings, answers, place, told, point, is_full, tableau):
        self.settings = settings
        self.answers = answers
        self.place = place
        self.told = told
        self.point = point
        self.is_full = is_full
        self.tableau = tableau


class Unfolded:
    """All leaves, and triples (settings, answers, weights) of all rows of answers that are left out."""

    def __init__(self, leaves, left_out):
        self.leaves = tuple(leaves)
        self.left_out = tuple(left_out)


def unfolded(model, *others):
    """The leaves of one or more models."""
    models = [model, *others]
    for other in others:
        if other.features != model.features:
            raise Unlike("features")
    check_switches(sum([one.switches for one in models]))
    rows = model.features.place_rows()
    leaves = []
    left_out = []
    for settings in model.features.all_settings():
        letters = model.features.letters_for(settings)
        unfold(settings, first_branch(rows, [(one, letters) for one in models]), leaves, left_out)
    return Unfolded(leaves, left_out)


def unfold(settings, branch, leaves, left_out):
    """Adds the leaves of a branch, and what is left out behind it, to two lists."""
    if branch.blocked is not None:
        left_out.append((settings, branch.answers, branch.blocked_weights()))
    elif branch.walk.plane is None:
        leaves.append(leaf_of(settings, branch))
    else:
        for answer in (0, 1):
            unfold(settings, branch.longer(answer), leaves, left_out)


def leaf_of(settings, branch):
    """The leaf that a complete branch is."""
    inside = branch.tableau.inside()
    is_full = inside.settle() is None
    point = inside.point_within() if is_full else branch.tableau.point_within()
    place = Place(branch.rows, branch.tableau.size)
    return Leaf(settings, branch.answers, place, branch.walk.told, point, is_full, branch.tableau)
