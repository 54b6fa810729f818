"""Whether two models are alike."""

from hingeworks.extremes import greatest_over, least_over
from hingeworks.planes import Plane
from hingeworks.twofold import check_two, unlike_point
from hingeworks.unfolding import unfolded


class Apart:
    """An input for which two models differ, and the pair of their results."""

    def __init__(self, given, told):
        self.given = given
        self.told = told


def apart(one, other):
    """An input for which the models differ, as an Apart, or None if they are alike."""
    check_two(one, other)
    for leaf in unfolded(one, other).leaves:
        point = unlike_point(leaf.told, leaf.tableau)
        if point is not None:
            told = [result.at(point) if isinstance(result, Plane) else result for result in leaf.told]
            return Apart(one.features.input_of(leaf.settings, point), tuple(told))
    return None


def alike_papers(one, other):
    """For each leaf the weights that show that the numbers are equal there, or None if the models differ."""
    check_two(one, other)
    papers = []
    for leaf in unfolded(one, other).leaves:
        if unlike_point(leaf.told, leaf.tableau) is not None:
            return None
        if one.tells == "number":
            papers.append(leaf_papers(leaf))
    return tuple(papers)


def leaf_papers(leaf):
    """The weights and bottoms that show that the difference of two equal numbers is at least 0, and at most 0."""
    gap = leaf.told[0] - leaf.told[1]
    up = least_over(gap, leaf.tableau)
    down = greatest_over(gap, leaf.tableau)
    return (up.weights, up.bottom), (down.weights, down.bottom)
