"""Where number models over the whole space bend."""

from hingeworks.continuous import found_jump
from hingeworks.errors import NotContinuous, NotPlain
from hingeworks.models import Model
from hingeworks.planes import hyperplane_row, row_plane
from hingeworks.ratios import Ratio, ascending
from hingeworks.rims import rims
from hingeworks.slopes import check_number_model
from hingeworks.unfolding import unfolded


class Crease:
    """The row of a hyperplane at which a model bends, all bends, ascending, and a point that has each of them."""

    def __init__(self, row, bends, points):
        self.row = row
        self.bends = bends
        self.points = points


def unranged(model):
    """The model without the ends of its fractions."""
    lines = []
    for line in model.features.lines:
        word = "yesno" if line.is_yesno else "fraction"
        unit = "" if line.measure == 1 else f" by {line.measure.written()}"
        lines.append(f"{word} {line.name}{unit}")
    return Model("\n".join(lines) + model.text[len(model.features.text):])


def creases(model):
    """All Creases of a continuous model over the whole space, ascending by their rows."""
    leaves, all_rims = whole_leaves(model)
    return leaf_creases(leaves, all_rims)


def whole_leaves(model):
    """The leaves over the whole space, and their rims, of a number model that has fractions alone and no jump."""
    check_number_model(model)
    if model.features.yesnos != ():
        raise NotPlain(model.features.yesnos[0])
    whole = unranged(model)
    unfolding = unfolded(whole)
    all_rims = rims(unfolding)
    if found_jump(whole, unfolding.leaves, all_rims) is not None:
        raise NotContinuous()
    return unfolding.leaves, all_rims


def leaf_creases(leaves, all_rims):
    """The Creases of the model that has these leaves and rims, ascending by their rows."""
    points = {}
    for rim in all_rims:
        bend = bend_at(leaves, rim)
        points.setdefault(rim.row, {}).setdefault((bend.top, bend.bottom), rim.point)
    found = []
    for row in sorted(points):
        if list(points[row]) != [(0, 1)]:
            found.append(crease_of(leaves, row, points[row]))
    return tuple(found)


def crease_of(leaves, row, points):
    """The Crease of this row; points are those at rims, by their bends.

    Nearly all points of a hyperplane lie at a rim or within a full leaf; those at which the result does not bend
    may be of the second kind alone.
    """
    pairs = [(Ratio(top, bottom), point) for (top, bottom), point in points.items()]
    if (0, 1) not in points:
        unbent = unbent_point(leaves, row)
        if unbent is not None:
            pairs.append((Ratio(0), unbent))
    pairs = ascending(pairs)
    return Crease(row, tuple([bend for bend, _ in pairs]), tuple([point for _, point in pairs]))


def bend_at(leaves, rim):
    """The bend c at a rim: the planes of both leaves differ by 2 * c * h, where h is the plane of the rim's row."""
    first = leaves[rim.first]
    second = leaves[rim.second]
    gap = second.told[0] - first.told[0]
    if row_plane(rim.row).at(second.point).top < 0:
        gap = -gap
    place = [at for at, whole in enumerate(rim.row) if at > 0 and whole != 0][0]
    return gap.slopes[place - 1].over(2 * rim.row[place])


def unbent_point(leaves, row):
    """A point of a hyperplane that lies within a full leaf, or None."""
    plane = row_plane(row)
    for leaf in leaves:
        if leaf.is_full and not has_hyperplane(leaf, row):
            point = leaf.tableau.inside().with_row((plane, False)).point_with((-plane, False))
            if point is not None:
                return point
    return None


def has_hyperplane(leaf, row):
    """Whether a row of the leaf's place changes its sign at a hyperplane."""
    return any([not plane.is_number and hyperplane_row(plane) == row for plane, _ in leaf.place.rows])
