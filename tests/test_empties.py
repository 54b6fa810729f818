import random
import unittest
from fractions import Fraction

from checking import (belongs, check_empty_weights, check_flat_weights, check_tuple_of_ratios, fractions, is_inner,
                      place, shown, worth)
from hingeworks.empties import empty_weights, flat_weights, inner_of, point_of
from hingeworks.places import Place
from making import long_number, mixed_place, place_around, small_number, some_places

TINY = Fraction(1, 10 ** 40 + 1)
LONG = Fraction(10 ** 40 - 3, 10 ** 39 + 1)

# Places with points and inner points.
FULL = [
    Place([], 0), Place([], 1), Place([], 6),
    place(0, (1, ">"), (0, ">=")), place(0, (0, ">=")), place(0, (TINY, ">")),
    place(1, (0, 1, ">")), place(1, (0, 1, ">=")), place(1, (0, 1, ">="), (1, -1, ">=")),
    place(1, (0, 1, ">"), (TINY, -1, ">")), place(1, (-LONG, 1, ">"), (LONG + TINY, -1, ">")),
    place(1, (0, 1, ">"), (0, 1, ">"), (0, 2, ">="), (3, 0, ">"), (0, 0, ">=")),
    place(2, (0, 1, 0, ">"), (0, 0, 1, ">"), (1, -1, -1, ">")), place(2, (5, 0, 0, ">"), (0, 0, 0, ">=")),
    place(2, (-1, 1, 0, ">="), (1, -1, 1, ">=")), place(3, (-7, 1, 1, 1, ">"), (8, -1, -1, -1, ">")),
    place(6, (0, 1, 1, 1, 1, 1, 1, ">"), (1, -1, -1, -1, -1, -1, -1, ">")),
]
# Places with points, but without inner points.
THIN = [
    place(1, (0, 1, ">="), (0, -1, ">=")), place(1, (0, 1, ">="), (0, -2, ">="), (1, 1, ">")),
    place(1, (-LONG, 1, ">="), (LONG, -1, ">=")), place(1, (0, 1, ">="), (0, -1, ">="), (0, 0, ">=")),
    place(2, (0, 1, 0, ">="), (0, 0, 1, ">="), (0, -1, -1, ">=")), place(2, (1, 1, 1, ">="), (-1, -1, -1, ">=")),
    place(2, (0, 1, 1, ">="), (0, -1, -1, ">="), (0, 1, 0, ">"), (5, 0, -1, ">=")),
    place(3, (0, 1, 0, 0, ">="), (0, 0, 1, 0, ">="), (0, 0, 0, 1, ">="), (0, -1, -1, -1, ">=")),
    place(6, (0, 1, 0, 0, 0, 0, 1, ">="), (0, -3, 0, 0, 0, 0, -3, ">=")),
    place(2, (-1, 1, 0, ">="), (1, -1, 0, ">="), (TINY, 0, 1, ">"), (0, 0, -1, ">")),
]
# Places without points.
EMPTY = [
    place(0, (0, ">")), place(0, (-1, ">=")), place(0, (-TINY, ">=")), place(0, (1, ">"), (0, ">"), (1, ">=")),
    place(1, (0, 0, ">")), place(1, (-1, 0, ">=")), place(1, (0, 1, ">"), (0, -1, ">")),
    place(1, (0, 1, ">"), (0, -1, ">=")), place(1, (0, 1, ">="), (0, -1, ">")),
    place(1, (-1, 1, ">="), (0, -1, ">=")), place(1, (0, 1, ">="), (-TINY, -1, ">=")),
    place(1, (-LONG, 1, ">"), (LONG, -1, ">")), place(1, (-LONG, 1, ">="), (LONG - TINY, -1, ">=")),
    place(1, (5, 1, ">="), (-2, 0, ">="), (5, -1, ">=")), place(6, (0, 0, 0, 0, 0, 0, 0, ">")),
    place(2, (0, 1, 0, ">="), (0, 0, 1, ">="), (0, -1, -1, ">")),
    place(2, (0, 1, 0, ">="), (0, 0, 1, ">"), (0, -1, -1, ">=")),
    place(2, (0, 1, 0, ">="), (0, 0, 1, ">="), (-TINY, -1, -1, ">=")),
    place(3, (0, 1, -1, 0, ">"), (0, 0, 1, -1, ">="), (0, -1, 0, 1, ">=")),
    place(3, (-1, 2, -1, 0, ">="), (0, 0, 1, -1, ">="), (0, -2, 0, 1, ">=")),
    place(6, (0, 1, 1, 0, 0, 0, 0, ">="), (0, 0, 0, 1, 1, 1, 1, ">"), (0, -1, -1, -1, -1, -1, -1, ">=")),
]


class EmptiesTest(unittest.TestCase):
    def check_point(self, one):
        """Just one of the two answers is there, and it is right; returns whether the place has a point."""
        found, weights = point_of(one), empty_weights(one)
        self.assertNotEqual(found is None, weights is None)
        if found is None:
            check_empty_weights(self, weights, one)
            return False
        check_tuple_of_ratios(self, found, one.size)
        self.assertTrue(belongs(one, fractions(found)))
        return True

    def check_inner(self, one):
        found, weights = inner_of(one), flat_weights(one)
        self.assertNotEqual(found is None, weights is None)
        if found is None:
            check_flat_weights(self, weights, one)
            return False
        check_tuple_of_ratios(self, found, one.size)
        self.assertTrue(is_inner(one, fractions(found)))
        return True

    def check_both(self, one):
        """Whether the place has a point, and whether it has an inner one."""
        before = shown(one)
        found = self.check_point(one), self.check_inner(one)
        self.assertEqual(shown(one), before)
        self.assertTrue(found[0] or not found[1])
        return found

    def test_places_with_inner_points(self):
        for one in FULL:
            self.assertEqual(self.check_both(one), (True, True), shown(one))

    def test_thin_places(self):
        for one in THIN:
            self.assertEqual(self.check_both(one), (True, False), shown(one))

    def test_places_without_points(self):
        for one in EMPTY:
            self.assertEqual(self.check_both(one), (False, False), shown(one))

    def test_just_one_point(self):
        one = place(2, (-LONG, 1, 0, ">="), (Fraction(1, 3), 0, 1, ">="), (LONG - Fraction(1, 3), -1, -1, ">="))
        self.assertEqual(self.check_both(one), (True, False))
        self.assertEqual(fractions(point_of(one)), (LONG, Fraction(-1, 3)))
        self.assertEqual(point_of(Place([], 0)), ())
        self.assertEqual(inner_of(Place([], 0)), ())

    def test_any_order_of_rows(self):
        rng = random.Random(3)
        for family, expected in [(FULL, (True, True)), (THIN, (True, False)), (EMPTY, (False, False))]:
            for one in family:
                for _ in range(4):
                    rows = list(one.rows)
                    rng.shuffle(rows)
                    self.assertEqual(self.check_both(Place(rows, one.size)), expected)

    def test_equal_rows_and_multiples_of_rows_change_nothing(self):
        for family, expected in [(FULL, (True, True)), (THIN, (True, False)), (EMPTY, (False, False))]:
            for one in family:
                more = [(part * 3, strict) for part, strict in one.rows]
                self.assertEqual(self.check_both(one.with_rows(one.rows)), expected)
                self.assertEqual(self.check_both(Place(more, one.size).with_rows(one.rows)), expected)

    def test_many_places(self):
        rng = random.Random(1)
        found = [self.check_both(one) for one in some_places(rng, 200)]
        for kind in [(True, True), (True, False), (False, False)]:
            self.assertGreater(found.count(kind), 15, kind)

    def test_places_around_a_point_have_one(self):
        rng = random.Random(2)
        for number in (small_number, long_number):
            for size in range(7):
                for many in (1, 4, 8):
                    self.assertTrue(self.check_both(place_around(rng, size, many, number))[0])

    def test_mixtures_below_0(self):
        rng = random.Random(7)
        for size in range(7):
            for many in (1, 2, 5, 8):
                for total in (-1, -TINY, -LONG):
                    for strict in (False, True):
                        for number in (small_number, long_number):
                            one = mixed_place(rng, size, many, total, strict, number)
                            self.assertEqual(self.check_both(one), (False, False))

    def test_mixtures_of_0(self):
        rng = random.Random(8)
        for size in range(1, 7):
            for many in (2, 5, 8):
                for number in (small_number, long_number):
                    one = mixed_place(rng, size, many, 0, True, number)
                    self.assertEqual(self.check_both(one), (False, False))
                    one = mixed_place(rng, size, many, 0, False, number)
                    if any(not part.is_number for part, _ in one.rows):
                        self.assertFalse(self.check_both(one)[1])

    def test_mixtures_just_above_0(self):
        for many in range(2, 7):
            rows = [[0] * at + [1] + [0] * (many - 1 - at) for at in range(many)]
            last = [-1] * many
            for total, expected in [(TINY, (True, True)), (0, (False, False)), (-TINY, (False, False))]:
                one = place(many, *[(0, *row, ">") for row in rows], (total, *last, ">"))
                self.assertEqual(self.check_both(one), expected)
            for total, expected in [(TINY, (True, True)), (0, (True, False)), (-TINY, (False, False))]:
                one = place(many, *[(0, *row, ">=") for row in rows], (total, *last, ">="))
                self.assertEqual(self.check_both(one), expected)

    def test_planes_of_flat_weights_are_0_on_thin_places(self):
        for one in THIN:
            found = fractions(point_of(one))
            for weight, (part, _) in zip(flat_weights(one), one.rows):
                if weight > 0:
                    self.assertEqual(worth(part, found), 0)

    def test_asked_again(self):
        rng = random.Random(9)
        for one in FULL + THIN + EMPTY + list(some_places(rng, 15)):
            for ask in (point_of, empty_weights, inner_of, flat_weights):
                self.assertEqual(ask(one), ask(one))


if __name__ == "__main__":
    unittest.main()
