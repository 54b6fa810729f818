"""Pairs of heaps: differences of greatest worths."""

from hingeworks.bends import leaf_creases, whole_leaves
from hingeworks.heaps import Heap, check_alike_sizes, heap_apart, slimmed_heap
from hingeworks.planes import check_sizes, number_plane, plane_key, row_plane
from hingeworks.ratios import as_ratio, is_ratio


class Pair:
    """Two heaps; the worth at a point is the top of plus less the top of minus."""

    def __init__(self, plus, minus):
        check_sizes(plus, minus)
        self.plus = plus
        self.minus = minus
        self.size = plus.size

    def at(self, point):
        """The worth at a point, a Ratio."""
        return self.plus.at(point) - self.minus.at(point)

    def __add__(self, other):
        if not isinstance(other, Pair):
            return NotImplemented
        check_sizes(self, other)
        return Pair(self.plus + other.plus, self.minus + other.minus)

    def __sub__(self, other):
        if not isinstance(other, Pair):
            return NotImplemented
        check_sizes(self, other)
        return Pair(self.plus + other.minus, self.minus + other.plus)

    def __neg__(self):
        return Pair(self.minus, self.plus)

    def __mul__(self, other):
        if not is_ratio(other):
            return NotImplemented
        if as_ratio(other).top < 0:
            return Pair(self.minus * -other, self.plus * -other)
        return Pair(self.plus * other, self.minus * other)


def least_pair(pair):
    """The pair of the least heaps."""
    return Pair(slimmed_heap(pair.plus), slimmed_heap(pair.minus))


def highest_of(pairs):
    """A pair of least heaps whose worth is the greatest worth of some pairs everywhere."""
    check_alike_sizes("pairs", pairs)
    least_pairs = [least_pair(pair) for pair in pairs]
    minus = slimmed_sum([pair.minus for pair in least_pairs])
    plus = None
    for number, pair in enumerate(least_pairs):
        others = [other.minus for at, other in enumerate(least_pairs) if at != number]
        part = slimmed_sum([pair.plus, *others])
        plus = part if plus is None else slimmed_heap(plus.joined(part))
    return Pair(plus, minus)


def slimmed_sum(heaps):
    """The least heap of the sum of some heaps; what is left out of a part would be left out of the sum, too."""
    found = heaps[0]
    for heap in heaps[1:]:
        found = slimmed_heap(found + heap)
    return found


def pair_apart(one, other):
    """A point at which the worths of two pairs differ, or None."""
    check_sizes(one, other)
    first = least_pair(one)
    second = least_pair(other)
    return heap_apart(first.plus + second.minus, second.plus + first.minus)


def pair_of(model):
    """The pair of a model over the whole space."""
    leaves, all_rims = whole_leaves(model)
    falling = [crease for crease in leaf_creases(leaves, all_rims) if crease.bends[0].top < 0]
    plus = {}
    minus = {}
    for leaf in leaves:
        if leaf.is_full:
            for lifted in lifted_planes(leaf, falling):
                minus.setdefault(plane_key(lifted), lifted)
                plane = leaf.told[0] + lifted
                plus.setdefault(plane_key(plane), plane)
    return Pair(Heap(list(plus.values())), Heap(list(minus.values())))


def lifted_planes(leaf, falling):
    """What the minus of a model is in the parts into which these creases cut a full leaf.

    Each of these parts has an inner point, so each plane is greater there than all other planes of minus.
    """
    parts = [(leaf.tableau.inside(), number_plane(0, leaf.place.size))]
    for crease in falling:
        plane = row_plane(crease.row)
        share = plane * -crease.bends[0]
        longer = []
        for tableau, lifted in parts:
            for row, part in (((plane, True), lifted + share), ((-plane, True), lifted - share)):
                cut = tableau.with_row(row)
                if cut.settle() is None:
                    longer.append((cut, part))
        parts = longer
    return [lifted for _, lifted in parts]
