"""Heaps: the greatest worth of some planes."""

from hingeworks.empties import empty_weights, point_of
from hingeworks.errors import BadNumber
from hingeworks.keeping import Rivals, kept_points
from hingeworks.places import Place
from hingeworks.planes import check_sizes
from hingeworks.ratios import as_ratio, greatest_ratio, is_ratio


class Heap:
    """One or more planes of one size; its top at a point is the greatest worth of its planes."""

    def __init__(self, planes):
        check_alike_sizes("planes", planes)
        self.planes = tuple(planes)
        self.size = self.planes[0].size

    def at(self, point):
        """The top at a point, a Ratio."""
        return greatest_ratio([plane.at(point) for plane in self.planes])

    def at_top(self, point):
        """The numbers of all planes whose worth at a point is the top, ascending."""
        worths = [plane.at(point) for plane in self.planes]
        top = greatest_ratio(worths)
        return tuple([number for number, worth in enumerate(worths) if worth == top])

    def __add__(self, other):
        if not isinstance(other, Heap):
            return NotImplemented
        check_sizes(self, other)
        return Heap([one + two for one in self.planes for two in other.planes])

    def __mul__(self, other):
        if not is_ratio(other):
            return NotImplemented
        if as_ratio(other).top < 0:
            raise BadNumber("ratio", other)
        return Heap([plane * other for plane in self.planes])

    def joined(self, other):
        """The heap of the planes of both heaps."""
        check_sizes(self, other)
        return Heap([*self.planes, *other.planes])


class LeastHeap:
    """The least heap of a heap, the numbers of the kept planes, a point for each of them, and covers of the others."""

    def __init__(self, heap, kept, points, covers):
        self.heap = heap
        self.kept = kept
        self.points = points
        self.covers = covers


def over_point(plane, heap):
    """A point at which the worth of the plane is above the top of the heap, or None."""
    check_sizes(plane, heap)
    return point_of(over_place(plane, heap.planes))


def cover(plane, heap):
    """Weights of the heap that cover the plane, or None."""
    check_sizes(plane, heap)
    return empty_weights(over_place(plane, heap.planes))


def least_heap(heap):
    """The least heap of a heap, with what shows it."""
    points = kept_points(heap.planes)
    kept = tuple([number for number, point in enumerate(points) if point is not None])
    made = Heap([heap.planes[number] for number in kept])
    rivals = Rivals(made.planes, list(range(len(kept))))
    covers = [None if number in kept else rivals.cover_of(plane) for number, plane in enumerate(heap.planes)]
    return LeastHeap(made, kept, tuple([points[number] for number in kept]), tuple(covers))


def heap_apart(one, other):
    """A point at which the tops of two heaps differ, or None."""
    check_sizes(one, other)
    first = slimmed_heap(one)
    second = slimmed_heap(other)
    for plane in first.planes:
        point = None if plane in second.planes else over_point(plane, second)
        if point is not None:
            return point
    for plane in second.planes:
        point = None if plane in first.planes else over_point(plane, first)
        if point is not None:
            return point
    return None


def slimmed_heap(heap):
    """The least heap alone."""
    points = kept_points(heap.planes)
    return Heap([plane for plane, point in zip(heap.planes, points) if point is not None])


def check_alike_sizes(what, items):
    """Refuses an empty list, and a list of objects of unlike sizes."""
    if len(items) == 0:
        raise BadNumber(what, 0)
    for item in items:
        if item.size != items[0].size:
            raise BadNumber("size", item.size)


def over_place(plane, planes):
    """The place in which a plane is above all of some planes."""
    return Place([(plane - other, True) for other in planes], plane.size)
