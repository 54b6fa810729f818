"""Whether number models are continuous."""

from hingeworks.forks import answer_row, forks, reached, shared_rows
from hingeworks.planes import hyperplane_row
from hingeworks.rims import rim_tableau, rims
from hingeworks.slopes import Jump, check_number_model
from hingeworks.tableau import Tableau
from hingeworks.twofold import unlike_point
from hingeworks.unfolding import unfolded
from hingeworks.working import worked


def jump_of(model):
    """A Jump of a number model, or None if it is continuous."""
    check_number_model(model)
    unfolding = unfolded(model)
    return found_jump(model, unfolding.leaves, rims(unfolding))


def found_jump(model, leaves, all_rims):
    """A Jump of the model that has these leaves and these rims, or None.

    Around each point, ways lead from any full leaf to any other one by rims alone. So if the planes of all rims
    agree there, the full leaves tell one continuous function, and only thin leaves can differ from it.
    """
    for rim in all_rims:
        one = leaves[rim.first]
        other = leaves[rim.second]
        gap = one.told[0] - other.told[0]
        if any(gap.row) and (gap.is_number or hyperplane_row(gap) != rim.row):
            return rim_jump(model, one, other, rim.row)
    return thin_jump(model, leaves)


def rim_jump(model, one, other, hyperplane):
    """The Jump at a rim of two leaves whose planes differ there."""
    tableau = rim_tableau(hyperplane, [*one.place.rows, *other.place.rows])
    tableau.settle()
    point = unlike_point((one.told[0], other.told[0]), tableau)
    value = worked(model, model.features.input_of(one.settings, point)).told
    return jump_into(model, one if one.told[0].at(point) != value else other, point, value)


def thin_jump(model, leaves):
    """A Jump from a point of a thin leaf into a full leaf, in the closure of which it lies, or None.

    It lies at the hyperplane of the first switch that the leaves answer differently, and the thin one is behind off.
    """
    for depth, offs, ons in forks(leaves, list(range(len(leaves)))):
        thin = [number for number in offs if not leaves[number].is_full]
        full = [number for number in ons if leaves[number].is_full]
        if thin != [] and full != []:
            for first, second, tableau in meeting_leaves(leaves, depth, thin, full):
                point = unlike_point((leaves[first].told[0], leaves[second].told[0]), tableau)
                if point is not None:
                    return jump_into(model, leaves[second], point, leaves[first].told[0].at(point))
    return None


def meeting_leaves(leaves, depth, offs, ons):
    """Triples of a leaf behind off, one behind on whose closure has points of it, and the tableau of these points."""
    across, _ = answer_row(leaves[ons[0]], depth)
    section = Tableau([*shared_rows(leaves[ons[0]], depth), (across, False), (-across, False)], across.size)
    if section.settle() is not None:
        return []
    found = []
    for first, part in reached(section, leaves, offs, depth + 1, kept_row):
        for second, both in reached(part, leaves, ons, depth + 1, closed_row):
            found.append((first, second, both))
    return found


def kept_row(row):
    """The row of a leaf itself."""
    return row


def closed_row(row):
    """The row of the closure of a leaf."""
    plane, _ = row
    return plane, False


def jump_into(model, leaf, point, value):
    """The Jump at a point with this value into a leaf in the closure of which the point lies."""
    way = [there - here for here, there in zip(point, leaf.point)]
    return Jump(model.features.input_of(leaf.settings, point), way, value, leaf.told[0].at(point))
