"""All leaves of one or more models, and weights for the answers that no input gives."""

from hingeworks.errors import Unlike
from hingeworks.models import check_switches
from hingeworks.places import Place
from hingeworks.tableau import Tableau
from hingeworks.walking import begun_together


class Leaf:
    """Settings and a complete row of answers that some input gives."""

    def __init__(self, settings, answers, place, told, point, is_full):
        self.settings = settings
        self.answers = answers
        self.place = place
        self.told = told
        self.point = point
        self.is_full = is_full


class Unfolded:
    """All leaves, and triples (settings, answers, weights) of all rows of answers that are left out."""

    def __init__(self, leaves, left_out):
        self.leaves = tuple(leaves)
        self.left_out = tuple(left_out)


class Branch:
    """A row of answers that some input gives; the tableau of its place is settled."""

    def __init__(self, settings, answers, rows, tableau, walk):
        self.settings = settings
        self.answers = answers
        self.rows = rows
        self.tableau = tableau
        self.walk = walk


def unfolded(model, *others):
    """The leaves of one or more models."""
    models = [model, *others]
    for other in others:
        if other.features != model.features:
            raise Unlike("features")
    check_switches(sum([one.switches for one in models]))
    leaves = []
    left_out = []
    for settings in model.features.all_settings():
        unfold(first_branch(models, settings), leaves, left_out)
    return Unfolded(leaves, left_out)


def first_branch(models, settings):
    """The branch without answers."""
    features = models[0].features
    rows = features.place_rows()
    tableau = Tableau(rows, len(features.fractions))
    # Each low end is below its high end, so these rows have a point.
    tableau.settle()
    return Branch(settings, (), rows, tableau, begun_together(models, features.letters_for(settings)))


def unfold(branch, leaves, left_out):
    """Adds the leaves of a branch, and what is left out behind it, to two lists."""
    plane = branch.walk.plane
    if plane is None:
        leaves.append(leaf_of(branch))
        return
    for answer, row in ((0, (-plane, False)), (1, (plane, True))):
        answers = (*branch.answers, answer)
        tableau = branch.tableau.with_row(row)
        at = tableau.settle()
        if at is None:
            rows = (*branch.rows, row)
            unfold(Branch(branch.settings, answers, rows, tableau, branch.walk.answered(answer)), leaves, left_out)
        else:
            left_out.append((branch.settings, answers, tableau.blocked_weights(at)))


def leaf_of(branch):
    """The leaf that a branch is if no switch is left."""
    inside = branch.tableau.inside()
    is_full = inside.settle() is None
    point = inside.point_within() if is_full else branch.tableau.point_within()
    place = Place(branch.rows, branch.tableau.size)
    return Leaf(branch.settings, branch.answers, place, branch.walk.told, point, is_full)
