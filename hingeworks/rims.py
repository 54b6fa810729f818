"""The rims at which two full leaves meet."""

from hingeworks.forks import answer_row, forks, reached, shared_rows
from hingeworks.planes import hyperplane_row, row_plane
from hingeworks.tableau import Tableau


class Rim:
    """The numbers of two full leaves, the row of the hyperplane at which they meet, and a point there."""

    def __init__(self, first, second, row, point):
        self.first = first
        self.second = second
        self.row = row
        self.point = point


def rims(unfolding):
    """All rims of an unfolding, ascending by the numbers of both leaves."""
    leaves = unfolding.leaves
    full = [number for number, leaf in enumerate(leaves) if leaf.is_full]
    found = []
    for depth, offs, ons in forks(leaves, full):
        found.extend(fork_rims(leaves, depth, offs, ons))
    return tuple(sorted(found, key=lambda rim: (rim.first, rim.second)))


def fork_rims(leaves, depth, offs, ons):
    """The rims between full leaves behind off and full leaves behind on of one switch.

    The plane of the switch is above 0 in one leaf and not in the other one, so they can meet only where it is 0.
    """
    across, _ = answer_row(leaves[ons[0]], depth)
    hyperplane = hyperplane_row(across)
    section = rim_tableau(hyperplane, shared_rows(leaves[ons[0]], depth))
    if section.settle() is not None:
        return []

    def turned(row):
        return rim_row(hyperplane, row)

    found = []
    for first, part in reached(section, leaves, offs, depth + 1, turned):
        for second, both in reached(part, leaves, ons, depth + 1, turned):
            found.append(Rim(first, second, hyperplane, both.point_within()))
    return found


def rim_tableau(hyperplane, rows):
    """A tableau of the points of a hyperplane at which these rows are above 0, as far as a rim asks for it."""
    across = row_plane(hyperplane)
    turned = [rim_row(hyperplane, row) for row in rows]
    above = [row for row in turned if row is not None]
    return Tableau([(across, False), (-across, False), *above], across.size)


def rim_row(hyperplane, row):
    """The row that holds where the plane of a leaf's row is above 0; None if a rim does not ask for this."""
    plane, _ = row
    if plane.is_number or hyperplane_row(plane) == hyperplane:
        return None
    return plane, True
