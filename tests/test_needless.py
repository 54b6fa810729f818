import random
import unittest
from fractions import Fraction

from checking import (belongs, check_empty_weights, check_raised, check_tuple_of_ratios, fractions, place, shown)
from hingeworks.empties import empty_weights, point_of
from hingeworks.errors import BadNumber
from hingeworks.needless import beyond_point, needed_rows
from hingeworks.places import Place
from making import some_places

TINY = Fraction(1, 10 ** 40 + 1)
LONG = Fraction(10 ** 40 - 3, 10 ** 39 + 1)

# A place and the numbers of its needed rows.
CASES = [
    (Place([], 0), ()), (Place([], 3), ()),
    (place(0, (1, ">")), ()), (place(0, (0, ">=")), ()), (place(0, (0, ">")), (0,)), (place(0, (-1, ">=")), (0,)),
    (place(1, (0, 1, ">")), (0,)), (place(1, (TINY, 0, ">"), (0, 0, ">="), (0, 1, ">="), (5, 0, ">")), (2,)),
    # Equal rows and multiples: the earlier one goes.
    (place(1, (0, 1, ">"), (0, 1, ">")), (1,)), (place(1, (0, 1, ">="), (0, 1, ">="), (0, 1, ">=")), (2,)),
    (place(1, (0, 1, ">="), (0, 3, ">=")), (1,)), (place(1, (0, 3, ">"), (0, LONG, ">")), (1,)),
    (place(1, (0, 1, ">"), (0, 1, ">=")), (0,)), (place(1, (0, 1, ">="), (0, 1, ">")), (1,)),
    (place(2, (1, 2, 3, ">="), (0, 1, 0, ">"), (2, 4, 6, ">=")), (1, 2)),
    # Of equal rows the later one goes, too, if the rest forces it.
    (place(1, (0, 1, ">="), (0, 1, ">="), (-1, 1, ">=")), (2,)), (place(1, (-1, 1, ">"), (0, 1, ">"), (0, 1, ">")), (0,)),
    # Forced just at a rim, and just not.
    (place(1, (0, 1, ">"), (-TINY, 1, ">=")), (1,)), (place(1, (0, 1, ">="), (-TINY, 1, ">")), (1,)),
    (place(1, (-TINY, 1, ">="), (0, 1, ">=")), (0,)), (place(1, (0, 1, ">="), (TINY, -1, ">=")), (0, 1)),
    (place(2, (0, 1, 0, ">="), (0, 0, 1, ">="), (0, 1, 1, ">=")), (0, 1)),
    (place(2, (0, 1, 0, ">="), (0, 0, 1, ">="), (0, 1, 1, ">")), (0, 1, 2)),
    (place(2, (0, 1, 0, ">="), (0, 0, 1, ">"), (0, 1, 1, ">")), (0, 1)),
    (place(2, (0, 1, 0, ">="), (0, 0, 1, ">="), (TINY, 1, 1, ">")), (0, 1)),
    (place(2, (0, 1, 0, ">="), (0, 0, 1, ">="), (-TINY, 1, 1, ">=")), (0, 1, 2)),
    (place(2, (0, 1, 1, ">="), (0, 1, 0, ">="), (0, 0, 1, ">=")), (1, 2)),
    (place(2, (1, -1, 0, ">="), (1, 0, -1, ">="), (2, -1, -1, ">="), (2, -1, -1, ">")), (0, 1, 3)),
    # Opposite rows.
    (place(1, (0, 1, ">="), (0, -1, ">=")), (0, 1)), (place(1, (0, 1, ">="), (0, -1, ">="), (0, 2, ">=")), (1, 2)),
    (place(1, (0, 1, ">="), (0, -1, ">="), (1, 1, ">")), (0, 1)),
    (place(2, (0, 1, 0, ">="), (0, -1, 0, ">="), (0, 3, 1, ">="), (0, 0, 1, ">=")), (0, 1, 3)),
    # Places without points: rows without a point force every row.
    (place(1, (0, 1, ">"), (0, -1, ">")), (0, 1)), (place(1, (0, 1, ">"), (0, -1, ">"), (5, 1, ">")), (0, 1)),
    (place(1, (0, 1, ">"), (0, -1, ">="), (-1, 0, ">=")), (2,)), (place(1, (-1, 0, ">="), (0, 0, ">")), (1,)),
    (place(1, (5, 1, ">"), (0, 1, ">"), (-3, -1, ">"), (0, -1, ">")), (1, 3)),
    (place(1, (0, 1, ">"), (-3, -1, ">="), (0, 1, ">=")), (1, 2)),
    (place(1, (0, 1, ">="), (-1, -1, ">="), (-2, 0, ">="), (0, 1, ">")), (2,)),
]


def opposite(row):
    return -row[0], not row[1]


class NeededRowsTest(unittest.TestCase):
    def check(self, one):
        """Each row, in its turn, is left out or stays as weights or a point show; returns the needed rows."""
        before = shown(one)
        found = needed_rows(one)
        self.assertEqual(shown(one), before)
        self.assertIs(type(found), tuple)
        self.assertEqual([type(number) for number in found], [int] * len(found))
        self.assertEqual(list(found), sorted(set(found)))
        self.assertTrue(set(found) <= set(range(len(one.rows))))
        for number, row in enumerate(one.rows):
            others = [other for other in range(len(one.rows)) if other > number or (other < number and other in found)]
            rest = Place([one.rows[other] for other in others], one.size)
            self.check_row(row, rest, number in found)
        return found

    def check_row(self, row, rest, stays):
        turned = rest.with_rows([opposite(row)])
        if not stays:
            return check_empty_weights(self, empty_weights(turned), turned)
        point = fractions(point_of(turned))
        self.assertTrue(belongs(rest, point))
        return self.assertFalse(belongs(Place([row], rest.size), point))

    def test_told_cases(self):
        for one, expected in CASES:
            self.assertEqual(self.check(one), expected, shown(one))

    def test_many_places(self):
        rng = random.Random(10)
        left_out = 0
        for one in some_places(rng, 40):
            left_out += len(one.rows) - len(self.check(one))
        self.assertGreater(left_out, 100)

    def test_the_needed_rows_have_the_same_points(self):
        rng = random.Random(11)
        for one in [case[0] for case in CASES] + list(some_places(rng, 15)):
            rest = Place([one.rows[number] for number in needed_rows(one)], one.size)
            for row in one.rows:
                turned = rest.with_rows([opposite(row)])
                check_empty_weights(self, empty_weights(turned), turned)

    def test_asked_again(self):
        for one, expected in CASES:
            self.assertEqual((needed_rows(one), needed_rows(one)), (expected, expected))


SQUARE = place(2, (0, 1, 0, ">="), (0, 0, 1, ">="), (1, -1, 0, ">="), (1, 0, -1, ">="))
OPEN_SQUARE = place(2, (0, 1, 0, ">"), (0, 0, 1, ">"), (1, -1, 0, ">"), (1, 0, -1, ">"))
TRIANGLE = place(2, (0, 1, 0, ">="), (0, 0, 1, ">="), (1, -1, -1, ">="))
NOWHERE = place(2, (0, 1, 0, ">"), (0, -1, 0, ">"))

# Two places, whether the first one has a point beyond the second one, and the other way round.
PAIRS = [
    (TRIANGLE, SQUARE, False, True), (OPEN_SQUARE, SQUARE, False, True), (SQUARE, SQUARE, False, False),
    (SQUARE, Place(SQUARE.rows[::-1], 2), False, False), (NOWHERE, SQUARE, False, True),
    (NOWHERE, NOWHERE, False, False), (NOWHERE, place(2, (-1, 0, 0, ">=")), False, False),
    (SQUARE, Place([], 2), False, True), (NOWHERE, Place([], 2), False, True), (Place([], 2), Place([], 2), False, False),
    (Place([], 0), Place([], 0), False, False), (Place([], 0), place(0, (0, ">")), True, False),
    (place(0, (0, ">=")), place(0, (1, ">")), False, False),
    # A row is made strict, moved by a little, multiplied.
    (SQUARE, SQUARE.with_rows(OPEN_SQUARE.rows[2:3]), True, False),
    (place(1, (0, 1, ">")), place(1, (0, 1, ">=")), False, True),
    (place(1, (0, 1, ">=")), place(1, (TINY, 1, ">")), False, True),
    (place(1, (TINY, 1, ">=")), place(1, (0, 1, ">")), True, False),
    (place(1, (LONG, 1, ">=")), place(1, (LONG - TINY, 1, ">")), True, False),
    (place(1, (LONG, 1, ">=")), place(1, (3 * LONG, 3, ">=")), False, False),
    (place(1, (1, 2, ">"), (3, -1, ">=")), place(1, (30, -10, ">="), (Fraction(1, 2), 1, ">")), False, False),
    (place(2, (0, 1, 0, ">="), (0, 0, 1, ">=")), place(2, (0, 1, 1, ">=")), False, True),
    (place(2, (0, 1, 0, ">="), (0, 0, 1, ">=")), place(2, (0, 1, 1, ">")), True, True),
    (place(2, (0, 1, 0, ">"), (0, 0, 1, ">=")), place(2, (0, 1, 1, ">")), False, True),
    # Two places that share only a part, and two that share nothing.
    (place(1, (0, 1, ">="), (2, -1, ">=")), place(1, (-1, 1, ">="), (3, -1, ">=")), True, True),
    (place(1, (0, 1, ">")), place(1, (0, -1, ">")), True, True),
    # Only the last row of the other place tells them apart.
    (SQUARE, SQUARE.with_rows(TRIANGLE.rows[2:]), True, False),
    (place(1, (0, 1, ">="), (0, -1, ">=")), place(1, (0, 1, ">="), (0, -1, ">="), (0, 5, ">=")), False, False),
    (place(1, (0, 1, ">="), (0, -1, ">=")), place(1, (0, 1, ">="), (0, -1, ">="), (0, 5, ">")), True, False),
]


class BeyondPointTest(unittest.TestCase):
    def check(self, one, other):
        """The point, or None, is right; returns whether there is a point."""
        before = shown(one), shown(other)
        found = beyond_point(one, other)
        self.assertEqual((shown(one), shown(other)), before)
        if found is not None:
            check_tuple_of_ratios(self, found, one.size)
            self.assertTrue(belongs(one, fractions(found)))
            self.assertFalse(belongs(other, fractions(found)))
            return True
        for row in other.rows:
            turned = one.with_rows([opposite(row)])
            check_empty_weights(self, empty_weights(turned), turned)
        return False

    def test_told_pairs(self):
        for one, other, beyond, back in PAIRS:
            self.assertIs(self.check(one, other), beyond, (shown(one), shown(other)))
            self.assertIs(self.check(other, one), back, (shown(other), shown(one)))

    def test_needed_rows_and_other_orders_have_no_point_beyond(self):
        rng = random.Random(12)
        for one in some_places(rng, 25):
            rows = [(part * rng.choice([1, 2, 5]), strict) for part, strict in one.rows]
            rng.shuffle(rows)
            needed = Place([one.rows[number] for number in needed_rows(one)], one.size)
            for other in (Place(rows, one.size), needed):
                self.assertFalse(self.check(one, other))
                self.assertFalse(self.check(other, one))

    def test_many_pairs(self):
        rng = random.Random(13)
        by_size = {}
        for one in some_places(rng, 60):
            by_size.setdefault(one.size, []).append(one)
        found = []
        for places in by_size.values():
            for one, other in zip(places, places[1:]):
                found.append(self.check(one, other))
                found.append(self.check(one, Place(other.rows[:1] + one.rows[1:], one.size)))
        self.assertGreater(found.count(True), 30)
        self.assertGreater(found.count(False), 30)

    def test_unlike_sizes(self):
        for one, other in [(SQUARE, Place([], 0)), (Place([], 0), SQUARE), (NOWHERE, place(1, (0, 0, ">"))),
                           (place(1, (-1, 0, ">=")), NOWHERE), (Place([], 3), Place([], 1))]:
            check_raised(self, BadNumber, {"what": "size", "number": other.size}, beyond_point, one, other)

    def test_asked_again(self):
        for one, other, _, _ in PAIRS:
            self.assertEqual(beyond_point(one, other), beyond_point(one, other))


if __name__ == "__main__":
    unittest.main()
