import random
import unittest
from fractions import Fraction
from itertools import combinations

from checking import (check_raised, check_tuple_of_ratios, closed_belongs, fractions, numbers, place, shown)
from hingeworks.corners import corners
from hingeworks.errors import TooLarge
from hingeworks.places import Place
from making import some_places

TINY = Fraction(1, 10 ** 40 + 1)
LONG = Fraction(10 ** 40 - 3, 10 ** 39 + 1)
HALF = Fraction(1, 2)

CASES = [
    # No letters: the only point is a corner if the closed place has it.
    (Place([], 0), [()]), (place(0, (1, ">")), [()]), (place(0, (0, ">")), [()]), (place(0, (0, ">="), (3, ">")), [()]),
    (place(0, (-1, ">=")), []), (place(0, (1, ">"), (-TINY, ">")), []),
    # One letter.
    (Place([], 1), []), (place(1, (0, 1, ">")), [(0,)]), (place(1, (-3, 2, ">=")), [(3 * HALF,)]),
    (place(1, (0, 1, ">="), (1, -1, ">")), [(0,), (1,)]), (place(1, (1, -1, ">"), (0, 1, ">=")), [(0,), (1,)]),
    (place(1, (0, 1, ">"), (0, 1, ">="), (0, 5, ">")), [(0,)]), (place(1, (0, 1, ">="), (0, -1, ">=")), [(0,)]),
    (place(1, (0, 1, ">"), (0, -3, ">")), [(0,)]), (place(1, (-1, 1, ">="), (0, -1, ">=")), []),
    (place(1, (0, 1, ">="), (-1, 1, ">=")), [(1,)]), (place(1, (0, 1, ">="), (-TINY, 1, ">")), [(TINY,)]),
    (place(1, (5, 0, ">")), []), (place(1, (0, 1, ">="), (5, 0, ">")), [(0,)]),
    (place(1, (0, 1, ">="), (0, 0, ">")), [(0,)]),
    (place(1, (0, 1, ">="), (-5, 0, ">=")), []),
    (place(1, (-LONG, 1, ">="), (LONG + TINY, -1, ">=")), [(LONG,), (LONG + TINY,)]),
    # Two letters.
    (Place([], 2), []), (place(2, (0, 1, 0, ">=")), []),
    (place(2, (0, 1, 1, ">="), (0, 2, 2, ">"), (1, -1, -1, ">=")), []),
    (place(2, (0, 1, 0, ">="), (0, 0, 1, ">=")), [(0, 0)]),
    (place(2, (0, 1, 0, ">"), (0, -1, 0, ">"), (0, 0, 1, ">")), [(0, 0)]),
    (place(2, (0, 1, 0, ">"), (0, 0, 1, ">"), (1, -1, -1, ">")), [(0, 0), (0, 1), (1, 0)]),
    (place(2, (1, 1, 0, ">="), (1, -1, 0, ">="), (1, 0, 1, ">="), (1, 0, -1, ">=")),
     [(-1, -1), (-1, 1), (1, -1), (1, 1)]),
    (place(2, (0, 1, 0, ">="), (0, 0, 1, ">="), (0, 1, 1, ">="), (0, 2, 1, ">=")), [(0, 0)]),
    (place(2, (0, 1, 0, ">="), (0, 0, 1, ">="), (0, -1, -1, ">=")), [(0, 0)]),
    (place(2, (0, 1, 0, ">"), (0, 0, 1, ">"), (0, -1, -1, ">")), [(0, 0)]),
    (place(2, (0, 1, 0, ">="), (0, 0, 1, ">="), (-1, -1, -1, ">=")), []),
    (place(2, (0, 1, -1, ">="), (0, -1, 1, ">="), (1, -1, 0, ">=")), [(1, 1)]),
    (place(2, (0, 1, 0, ">="), (1, -1, 0, ">="), (0, 0, 1, ">="), (-1, 0, 0, ">=")), []),
    # Ascending by the first ratio, then by the second one.
    (place(2, (0, 3, 1, ">="), (6, -1, -1, ">="), (0, 1, -1, ">="), (2, 1, 0, ">="), (9, 0, -1, ">=")),
     [(0, 0), (3, 3)]),
    (place(2, (1, 1, 1, ">="), (1, 1, -1, ">="), (1, -1, 1, ">="), (1, -1, -1, ">=")),
     [(-1, 0), (0, -1), (0, 1), (1, 0)]),
    # Three letters.
    (Place([], 3), []), (place(3, (0, 1, 0, 0, ">="), (0, 0, 1, 0, ">=")), []),
    (place(3, (0, 1, 0, 0, ">"), (0, 0, 1, 0, ">="), (0, 0, 0, 1, ">"), (1, -1, -1, -1, ">=")),
     [(0, 0, 0), (0, 0, 1), (0, 1, 0), (1, 0, 0)]),
    (place(3, (1, 1, 0, 0, ">="), (1, -1, 0, 0, ">="), (1, 0, 1, 0, ">="), (1, 0, -1, 0, ">="), (1, 0, 0, 1, ">="),
           (1, 0, 0, -1, ">=")),
     [(x, y, z) for x in (-1, 1) for y in (-1, 1) for z in (-1, 1)]),
    (place(3, (0, 1, 0, 1, ">="), (0, -1, 0, 1, ">="), (0, 0, 1, 1, ">="), (0, 0, -1, 1, ">="), (0, 1, 1, 2, ">=")),
     [(0, 0, 0)]),
    (place(3, (0, 1, 1, 0, ">="), (0, 1, -1, 0, ">="), (0, 1, 0, 0, ">="), (1, 2, 3, 0, ">")), []),
    (place(3, (1, 1, 1, 1, ">="), (-1, -1, -1, -1, ">="), (0, 1, 0, 0, ">="), (0, 0, 1, 0, ">=")), [(0, 0, -1)]),
]


def rank_is(rows, size):
    """Whether the multiples of so many planes are independent, and the point at which they are 0."""
    lines = [list(row) for row in rows]
    for column in range(1, size + 1):
        chosen = next((line for line in lines[column - 1:] if line[column] != 0), None)
        if chosen is None:
            return None
        lines.remove(chosen)
        lines.insert(column - 1, chosen)
        for at, line in enumerate(lines):
            if at != column - 1:
                share = line[column] / chosen[column]
                lines[at] = [here - share * there for here, there in zip(line, chosen)]
    return tuple(-line[0] / line[at + 1] for at, line in enumerate(lines))


def corners_by_trial(one):
    """All points at which as many independent planes are 0 as there are letters, if the closed place has them."""
    found = set()
    for rows in combinations([numbers(row[0]) for row in one.rows], one.size):
        point = rank_is(rows, one.size)
        if point is not None and closed_belongs(one, point):
            found.add(point)
    return sorted(found)


class CornersTest(unittest.TestCase):
    def check(self, one, expected):
        before = shown(one)
        found = corners(one)
        self.assertIs(type(found), tuple)
        for point in found:
            check_tuple_of_ratios(self, point, one.size)
        self.assertEqual([fractions(point) for point in found], expected, before)
        self.assertEqual(shown(one), before)
        self.assertEqual(corners(one), found)

    def test_told_cases(self):
        for one, expected in CASES:
            self.assertEqual(corners_by_trial(one), expected, shown(one))
            self.check(one, expected)

    def test_any_order_of_rows_and_multiples(self):
        rng = random.Random(71)
        for one, expected in CASES:
            for _ in range(3):
                rows = [(row[0] * rng.randint(1, 3), rng.random() < 0.5) for row in one.rows] + list(one.rows)
                rng.shuffle(rows)
                self.check(Place(rows, one.size), expected)

    def test_places_without_points_that_have_corners(self):
        for one in (place(1, (0, 1, ">"), (0, -1, ">")), place(2, (0, 1, 0, ">"), (0, -1, 0, ">="), (0, 0, 1, ">="))):
            self.check(one, [(0,) * one.size])

    def test_many_places(self):
        rng = random.Random(72)
        many = 0
        for one in some_places(rng, 120):
            if one.size <= 3:
                expected = corners_by_trial(one)
                many += len(expected)
                self.check(one, expected)
        self.assertGreater(many, 200)

    def test_a_polygon_of_many_rows(self):
        rows = [(Fraction(at * at + 1), Fraction(2 * at), Fraction(-1), ">=") for at in range(-12, 13)]
        one = place(2, *rows)
        self.check(one, corners_by_trial(one))
        self.assertEqual(len(corners(one)), 24)

    def test_too_many_letters(self):
        for size in (4, 5, 6, 40):
            for one in (Place([], size), place(size, (0, *[1] * size, ">"))):
                check_raised(self, TooLarge, {"what": "letters", "many": size, "limit": 3}, corners, one)


if __name__ == "__main__":
    unittest.main()
