"""Models that are a plane plus multiples of absolute worths."""

from hingeworks.bends import leaf_creases, whole_leaves
from hingeworks.errors import NotPlain, TooLarge, Unlike
from hingeworks.models import Model
from hingeworks.parsing import MOST_LINES
from hingeworks.planes import row_plane
from hingeworks.ratios import as_ratio
from hingeworks.writing import fresh_names, plane_text


class Layer:
    """A plane plus multiples of absolute worths; pairs of the row of a hyperplane and a ratio, ascending by row."""

    def __init__(self, plane, multiples):
        self.plane = plane
        self.multiples = tuple([(tuple(row), as_ratio(ratio)) for row, ratio in multiples])
        self.size = plane.size

    def at(self, point):
        """The worth at a point, a Ratio."""
        worth = self.plane.at(point)
        for row, ratio in self.multiples:
            part = row_plane(row).at(point)
            worth = worth + part * ratio * part.compared(0)
        return worth


class Stop:
    """The row of a crease that has several bends, the two least ones, and two points that have them."""

    def __init__(self, row, bends, points):
        self.row = row
        self.bends = bends
        self.points = points


def one_layer(model):
    """The Layer that a model is over the whole space, or a Stop if it is none."""
    leaves, all_rims = whole_leaves(model)
    found = leaf_creases(leaves, all_rims)
    for crease in found:
        if len(crease.bends) > 1:
            return Stop(crease.row, crease.bends[:2], crease.points[:2])
    return whole_layer([leaf for leaf in leaves if leaf.is_full][0], found)


def whole_layer(leaf, found):
    """The Layer of creases that have one bend each, from a full leaf; it has no points on both sides of a crease."""
    plane = leaf.told[0]
    for crease in found:
        across = row_plane(crease.row)
        plane = plane - across * (crease.bends[0] * across.at(leaf.point).compared(0))
    return Layer(plane, [(crease.row, crease.bends[0]) for crease in found])


def layer_model(layer, features):
    """The model of a layer: a hinge for each multiple, and a sum."""
    if features.yesnos != ():
        raise NotPlain(features.yesnos[0])
    if len(features.names) != layer.size:
        raise Unlike("features")
    many = len(layer.multiples) + 1
    if many > MOST_LINES:
        raise TooLarge("lines", many, MOST_LINES)
    names = fresh_names(features.names, many)
    lines = [features.text]
    rest = layer.plane
    parts = []
    # The absolute worth of h is twice the hinge of h less h.
    for name, (row, ratio) in zip(names, layer.multiples):
        across = row_plane(row)
        lines.append(f"hinge {name} {plane_text(across, features.names)}")
        rest = rest - across * ratio
        parts.extend([name, (ratio * 2).written()])
    lines.append(" ".join(["sum", names[-1], plane_text(rest, features.names), *parts]))
    return Model("\n".join(lines))
