"""The greatest and the least value of number models, and how far two of them differ."""

from hingeworks.extremes import greatest_over, turned_extreme
from hingeworks.models import check_switches
from hingeworks.parts import result_part
from hingeworks.planes import number_plane
from hingeworks.slopes import check_number_model
from hingeworks.twofold import check_two, input_found
from hingeworks.unfolding import unfolded


class Worth:
    """The number and the settings of a leaf that has a greatest or least worth, its sign, and its Extreme."""

    def __init__(self, leaf, settings, sign, extreme):
        self.leaf = leaf
        self.settings = settings
        self.sign = sign
        self.extreme = extreme


def greatest_value(model):
    """The greatest value of a number model."""
    check_number_model(model)
    leaves = unfolded(model).leaves
    return greatest_worth(leaves, [leaf.told[0] for leaf in leaves])


def least_value(model):
    """The least value of a number model."""
    check_number_model(model)
    leaves = unfolded(model).leaves
    found = greatest_worth(leaves, [-leaf.told[0] for leaf in leaves])
    return Worth(found.leaf, found.settings, 1, turned_extreme(found.extreme))


def loss(one, other):
    """The greatest difference of the values of two number models, whichever is the greater one."""
    check_two(one, other)
    check_number_model(one)
    leaves = unfolded(one, other).leaves
    gaps = [leaf.told[0] - leaf.told[1] for leaf in leaves]
    up = greatest_worth(leaves, gaps)
    down = greatest_worth(leaves, [-gap for gap in gaps])
    if surpasses(down.extreme, up.extreme):
        return Worth(down.leaf, down.settings, -1, down.extreme)
    return up


def above(one, other, by):
    """An input for which the value of one is greater than that of other plus by, or None."""
    check_two(one, other)
    check_number_model(one)
    for leaf in unfolded(one, other).leaves:
        gap = leaf.told[0] - leaf.told[1] - number_plane(by, leaf.place.size)
        point = leaf.tableau.point_with((gap, True))
        if point is not None:
            return one.features.input_of(leaf.settings, point)
    return None


def apart_by(one, other, by):
    """An input for which the values of two number models differ by more than a ratio from 0 on, or None."""
    check_two(one, other)
    check_number_model(one)
    check_switches(one.switches + other.switches)
    parts = [result_part(one), result_part(other)]
    return input_found(parts, lambda told, tableau: point_apart_by(told, tableau, by))


def point_apart_by(told, tableau, by):
    """A point of the place of a settled tableau at which two numbers differ by more than a ratio, or None."""
    gap = told[0] - told[1]
    bound = number_plane(by, gap.size)
    point = tableau.point_with((gap - bound, True))
    return tableau.point_with((-gap - bound, True)) if point is None else point


def greatest_worth(leaves, planes):
    """The Worth, of sign 1, of the leaf whose plane has the greatest worth."""
    best = None
    for number, leaf in enumerate(leaves):
        extreme = greatest_over(planes[number], leaf.tableau)
        if best is None or surpasses(extreme, best.extreme):
            best = Worth(number, leaf.settings, 1, extreme)
    return best


def surpasses(one, other):
    """Whether one greatest worth comes before another one: the greater value does, and of equal ones one reached."""
    if one.kind == "endless" or other.kind == "endless":
        return other.kind != "endless"
    order = one.value.compared(other.value)
    return order > 0 or (order == 0 and one.kind == "reached" and other.kind == "near")
