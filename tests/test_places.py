import random
import unittest
from fractions import Fraction

from checking import (NO_NUMBERS, belongs, check_raised, closed_belongs, fraction, place, plane, ratio, shown)
from hingeworks.errors import BadGiven, BadNumber, BadPlace
from hingeworks.places import Place
from hingeworks.planes import Plane
from hingeworks.ratios import Ratio
from making import small_number, some_places

TINY = Fraction(1, 10 ** 40)
NO_ROWS = [
    plane(1, 2), (plane(1, 2),), (plane(1, 2), True, True), [plane(1, 2), True], (plane(1, 2), 1), (plane(1, 2), 0),
    (plane(1, 2), None), (plane(1, 2), "True"), (plane(1, 2), Ratio(1)), (plane(1), True), (plane(1, 2, 3), False),
    (True, plane(1, 2)), (1, True), ("x", True), (None, False), ((1, 2), True), (Place([], 1), True), None, 3, "ab",
    b"ab", (), [], {plane: True}, True, Ratio(1), 1.5,
]


class PlaceTest(unittest.TestCase):
    def test_attributes(self):
        rows = [(plane(1, 2), True), (plane(0, -1), False), (plane(3, 0), True)]
        made = Place(rows, 1)
        self.assertIs(type(made.rows), tuple)
        self.assertEqual(made.size, 1)
        self.assertIs(type(made.size), int)
        self.assertEqual(len(made.rows), 3)
        for row, (one, strict) in zip(made.rows, rows):
            self.assertIs(type(row), tuple)
            self.assertIs(type(row[0]), Plane)
            self.assertTrue(row[0] == one)
            self.assertIs(row[1], strict)
        self.assertEqual(Place([], 0).rows, ())
        self.assertEqual(Place((), 3).size, 3)

    def test_a_tuple_is_taken(self):
        self.assertTrue(Place(((plane(1, 2), True),), 1) == Place([(plane(1, 2), True)], 1))

    def test_lists_are_copied(self):
        rows = [(plane(1, 2), True)]
        made = Place(rows, 1)
        before = shown(made)
        rows.append((plane(0, 1), False))
        rows[0] = (plane(5, 5), False)
        self.assertEqual(shown(made), before)
        more = [(plane(4, 4), False)]
        wider = made.with_rows(more)
        before = shown(wider)
        more.clear()
        self.assertEqual(shown(wider), before)
        self.assertEqual(len(made.rows), 1)

    def test_wrong_sizes(self):
        for value in NO_NUMBERS + [-1, -5, Ratio(1)]:
            for rows in ([], [(plane(1, 2), True)], ["x"]):
                check_raised(self, BadNumber, {"what": "size", "number": value}, Place, rows, value)

    def test_wrong_rows(self):
        right = [(plane(1, 2), True), (plane(0, 0), False)]
        for wrong in NO_ROWS:
            for rows in ([wrong], right[:1] + [wrong], right + [wrong] + right, right + [wrong, "x", None]):
                number = next(at for at, row in enumerate(rows) if row is wrong)
                check_raised(self, BadPlace, {"row": number}, Place, rows, 1)
                check_raised(self, BadPlace, {"row": number}, Place, tuple(rows), 1)

    def test_wrong_rows_of_size_0(self):
        check_raised(self, BadPlace, {"row": 1}, Place, [(plane(1), True), (plane(1, 0), True)], 0)
        check_raised(self, BadPlace, {"row": 0}, Place, [(plane(1), True)], 1)


class HoldsTest(unittest.TestCase):
    def check(self, one, point, holds, closed):
        for given in (tuple(point), list(point)):
            self.assertIs(one.holds(given), holds)
            self.assertIs(one.closed_holds(given), closed)

    def test_rims(self):
        for strict, sign in [(True, ">"), (False, ">=")]:
            one = place(1, (-1, 2, sign))
            self.check(one, [Ratio(1, 2)], not strict, True)
            self.check(one, [ratio(Fraction(1, 2) + TINY)], True, True)
            self.check(one, [ratio(Fraction(1, 2) - TINY)], False, False)
            self.check(one, [5], True, True)
            self.check(one, [-5], False, False)

    def test_each_row_counts(self):
        one = place(2, (0, 1, 0, ">="), (0, 0, 1, ">"), (1, -1, -1, ">="))
        for point, holds, closed in [
            ((0, 1), True, True), ((0, 0), False, True), ((1, 0), False, True), ((-1, 1), False, False),
            ((1, 1), False, False), ((0, -1), False, False), ((Ratio(1, 2), Ratio(1, 2)), True, True),
            ((Ratio(1, 2), Ratio(2, 3)), False, False),
        ]:
            self.check(one, point, holds, closed)

    def test_rows_that_are_numbers(self):
        for number, sign, holds, closed in [
            (1, ">", True, True), (1, ">=", True, True), (0, ">", False, True), (0, ">=", True, True),
            (-1, ">", False, False), (-1, ">=", False, False), (TINY, ">", True, True), (-TINY, ">=", False, False),
        ]:
            self.check(place(0, (number, sign)), [], holds, closed)
            self.check(place(2, (number, 0, 0, sign)), [3, 4], holds, closed)

    def test_places_without_rows(self):
        self.check(Place([], 0), [], True, True)
        self.check(Place([], 2), [-7, Ratio(1, 3)], True, True)

    def test_the_closed_place_may_have_points_where_the_place_has_none(self):
        one = place(1, (0, 1, ">"), (0, -1, ">"))
        self.check(one, [0], False, True)
        self.check(one, [1], False, False)

    def test_many_places(self):
        rng = random.Random(12)
        for one in some_places(rng, 60):
            for _ in range(3):
                point = [ratio(small_number(rng)) for _ in range(one.size)]
                given = [fraction(letter) for letter in point]
                self.check(one, point, belongs(one, given), closed_belongs(one, given))

    def test_wrong_points(self):
        for one in (place(2, (1, 2, 3, ">")), place(2, (-1, 0, 0, ">"), (1, 1, 1, ">=")), Place([], 2)):
            for point in ((), (1,), (1, 2, 3), None, 5, "12", b"12", {1: 1, 2: 2}, {1, 2}, one):
                check_raised(self, BadGiven, {"what": "point"}, one.holds, point)
                check_raised(self, BadGiven, {"what": "point"}, one.closed_holds, point)
            for value in NO_NUMBERS:
                for point in ((value, 1), [1, value]):
                    check_raised(self, BadGiven, {"what": "point"}, one.holds, point)
                    check_raised(self, BadGiven, {"what": "point"}, one.closed_holds, point)
        check_raised(self, BadGiven, {"what": "point"}, Place([], 0).holds, (1,))
        check_raised(self, BadGiven, {"what": "point"}, Place([], 0).closed_holds, None)


class EqualTest(unittest.TestCase):
    def test_sizes_and_rows_in_their_order(self):
        one, two = (1, 2, ">"), (0, -1, ">=")
        base = place(1, one, two)
        self.assertIs(base == place(1, one, two), True)
        self.assertIs(base != place(1, one, two), False)
        for other in (place(1, two, one), place(1, one), place(1, one, two, two), place(1), place(1, one, (0, -1, ">")),
                      place(1, one, (TINY, -1, ">=")), place(1, (2, 4, ">"), two), place(1, (1, 2, ">="), two)):
            self.assertIs(base == other, False)
            self.assertIs(base != other, True)
        self.assertFalse(Place([], 0) == Place([], 1))
        self.assertTrue(Place([], 2) == Place((), 2))
        self.assertFalse(place(1, (1, 0, ">")) == place(2, (1, 0, 0, ">")))

    def test_equal_to_no_other_value(self):
        for one in (Place([], 0), place(1, (1, 2, ">"))):
            for other in NO_NUMBERS + [0, (), [], one.rows, list(one.rows), (one.rows, one.size), plane(1), Ratio(1)]:
                self.assertIs(one == other, False)
                self.assertIs(one != other, True)


class WithRowsTest(unittest.TestCase):
    def test_rows_stand_behind(self):
        one = place(1, (1, 2, ">"), (0, 1, ">="))
        more = place(1, (3, 4, ">="), (1, 0, ">"))
        for rows in (list(more.rows), more.rows):
            wider = one.with_rows(rows)
            self.assertIs(type(wider), Place)
            self.assertEqual(shown(wider), shown(place(1, (1, 2, ">"), (0, 1, ">="), (3, 4, ">="), (1, 0, ">"))))
        self.assertEqual(shown(one), shown(place(1, (1, 2, ">"), (0, 1, ">="))))
        self.assertTrue(one.with_rows([]) == one)
        self.assertTrue(Place([], 0).with_rows([(plane(1), True)]) == place(0, (1, ">")))

    def test_wrong_rows_are_numbered_in_the_new_place(self):
        one = place(1, (1, 2, ">"), (0, 1, ">="))
        right = (plane(4, 4), True)
        before = shown(one)
        for wrong in NO_ROWS:
            check_raised(self, BadPlace, {"row": 2}, one.with_rows, [wrong])
            check_raised(self, BadPlace, {"row": 4}, one.with_rows, [right, right, wrong, "x"])
            check_raised(self, BadPlace, {"row": 1}, Place([], 1).with_rows, (right, wrong))
        self.assertEqual(shown(one), before)


if __name__ == "__main__":
    unittest.main()
