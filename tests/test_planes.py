import math
import random
import unittest
from fractions import Fraction

from checking import (NO_NUMBERS, check_raised, check_ratio, check_tuple_of_ratios, fraction, fractions, numbers, plane,
                      ratio, worth)
from hingeworks.errors import BadGiven, BadNumber
from hingeworks.places import Place
from hingeworks.planes import Plane, letter_plane, number_plane
from hingeworks.ratios import Ratio
from making import long_number, random_plane, small_number

NO_RATIOS = NO_NUMBERS + [[], (), plane(1), Place([], 0)]


def some_planes(size):
    rng = random.Random(size)
    made = [random_plane(rng, size) for _ in range(8)]
    made += [random_plane(rng, size, long_number) for _ in range(2)]
    return made + [plane(0, *[0] * size), plane(Fraction(-5, 3), *[0] * size)]


def check_plane(test, found, expected):
    """The plane has just these numbers, and all of its attributes fit them."""
    test.assertIs(type(found), Plane)
    size = len(expected) - 1
    check_ratio(test, found.fixed, expected[0])
    check_tuple_of_ratios(test, found.slopes, size)
    test.assertEqual(numbers(found), tuple(expected))
    test.assertIs(type(found.size), int)
    test.assertEqual(found.size, size)
    test.assertIs(found.is_number, not any(expected[1:]))
    check_row(test, found.row, expected)


def check_row(test, row, expected):
    test.assertIs(type(row), tuple)
    test.assertEqual([type(item) for item in row], [int] * len(expected))
    if not any(expected):
        return test.assertEqual(row, (0,) * len(expected))
    test.assertEqual(math.gcd(*row), 1)
    factors = {item / number for item, number in zip(row, expected) if number != 0}
    test.assertEqual(len(factors), 1)
    test.assertGreater(factors.pop(), 0)
    test.assertEqual([item for item, number in zip(row, expected) if number == 0], [0] * list(expected).count(0))


class PlaneTest(unittest.TestCase):
    def test_attributes(self):
        for size in range(5):
            for one in some_planes(size):
                check_plane(self, one, numbers(one))
        check_plane(self, Plane(Ratio(1, 2), [Ratio(-3, 4), 0, 5]), [Fraction(1, 2), Fraction(-3, 4), 0, 5])
        check_plane(self, Plane(-7, []), [-7])

    def test_integers_and_tuples_are_taken(self):
        check_plane(self, Plane(2, (3, Ratio(1, 2))), [2, 3, Fraction(1, 2)])
        check_plane(self, Plane(0, ()), [0])

    def test_least_whole_rows(self):
        for one, row in [
            (plane(Fraction(1, 2), Fraction(-1, 3)), (3, -2)), (plane(4, 6), (2, 3)), (plane(-4, -6), (-2, -3)),
            (plane(0, Fraction(5, 7)), (0, 1)), (plane(0, Fraction(-5, 7)), (0, -1)), (plane(-3, 0), (-1, 0)),
            (plane(Fraction(-7, 3)), (-1,)), (plane(Fraction(7, 3)), (1,)), (plane(0), (0,)), (plane(0, 0), (0, 0)),
            (plane(0, 0, 0, 0), (0, 0, 0, 0)), (plane(3, 5, 7), (3, 5, 7)), (plane(6, 0, -9), (2, 0, -3)),
            (plane(Fraction(1, 6), Fraction(1, 10), Fraction(1, 15)), (5, 3, 2)),
            (plane(Fraction(10 ** 40, 3), 10 ** 40), (1, 3)),
        ]:
            self.assertEqual(one.row, row)

    def test_is_number(self):
        for one, expected in [
            (plane(0), True), (plane(3), True), (plane(0, 0), True), (plane(5, 0, 0), True), (plane(0, 1), False),
            (plane(0, 0, Fraction(-1, 10 ** 40)), False), (plane(1, 2, 0), False),
        ]:
            self.assertIs(one.is_number, expected)

    def test_the_list_is_copied(self):
        slopes = [1, Ratio(1, 2)]
        one = Plane(3, slopes)
        slopes[0] = 9
        slopes.append(4)
        check_plane(self, one, [3, 1, Fraction(1, 2)])

    def test_wrong_fixed(self):
        for value in NO_RATIOS:
            for slopes in ([], [1, 2], (Ratio(1),), ["x", True]):
                check_raised(self, BadNumber, {"what": "fixed", "number": value}, Plane, value, slopes)

    def test_wrong_slopes(self):
        for value in NO_RATIOS:
            for slopes in ([value], [1, Ratio(1, 2), value, 3], (0, value), [value, "other"], [2, value, None, True]):
                check_raised(self, BadNumber, {"what": "slope", "number": value}, Plane, 1, slopes)

    def test_equal(self):
        for size in range(5):
            planes = some_planes(size)
            for one in planes:
                for other in planes:
                    self.assertIs(one == other, numbers(one) == numbers(other))
                    self.assertIs(one != other, numbers(one) != numbers(other))
                self.assertTrue(one == plane(*numbers(one)))

    def test_planes_of_which_one_ratio_differs(self):
        for size in range(5):
            base = [Fraction(at + 1, 3) for at in range(size + 1)]
            for at in range(size + 1):
                other = list(base)
                other[at] = other[at] + Fraction(1, 10 ** 40)
                self.assertFalse(plane(*base) == plane(*other))
                self.assertTrue(plane(*base) != plane(*other))

    def test_a_plane_is_not_scaled(self):
        self.assertFalse(plane(1, 2) == plane(2, 4))
        self.assertFalse(plane(1, 2) == plane(-1, -2))
        self.assertEqual(numbers(plane(2, 4)), (2, 4))

    def test_planes_of_unlike_sizes_are_not_equal(self):
        self.assertFalse(plane(1) == plane(1, 0))
        self.assertFalse(plane(1, 0) == plane(1))
        self.assertFalse(plane(0, 1) == plane(0, 1, 0))

    def test_equal_to_no_other_value(self):
        for one in (plane(1), plane(0), plane(1, 2)):
            for other in NO_NUMBERS + [0, 1, Ratio(1), Ratio(0), (1,), (1, 2), [1, 2], Place([], 0), Place([], 1)]:
                self.assertIs(one == other, False)
                self.assertIs(one != other, True)


class CountingTest(unittest.TestCase):
    def test_sums_and_differences(self):
        for size in range(5):
            planes = some_planes(size)
            for one in planes:
                for other in planes:
                    pairs = list(zip(numbers(one), numbers(other)))
                    check_plane(self, one + other, [left + right for left, right in pairs])
                    check_plane(self, one - other, [left - right for left, right in pairs])

    def test_multiples(self):
        for size in range(5):
            for one in some_planes(size):
                for factor in (0, 1, -1, 7, Fraction(-2, 3), Fraction(1, 10 ** 40)):
                    check_plane(self, one * ratio(factor), [number * factor for number in numbers(one)])
                for factor in (0, 1, -1, 6, 10 ** 40):
                    check_plane(self, one * factor, [number * factor for number in numbers(one)])
                check_plane(self, -one, [-number for number in numbers(one)])

    def test_unlike_sizes(self):
        for one, other in [(plane(1), plane(1, 2)), (plane(1, 2), plane(1)), (plane(1, 2, 3, 4), plane(0, 0))]:
            fields = {"what": "size", "number": other.size}
            check_raised(self, BadNumber, fields, lambda: one + other)
            check_raised(self, BadNumber, fields, lambda: one - other)

    def test_nothing_is_changed(self):
        one, other = plane(1, Fraction(1, 2)), plane(-2, 3)
        for _ in range(2):
            self.assertEqual(numbers(one + other), (-1, Fraction(7, 2)))
            self.assertEqual(numbers(one - other), (3, Fraction(-5, 2)))
            self.assertEqual(numbers(one * 4), (4, 2))
            self.assertEqual(numbers(-one), (-1, Fraction(-1, 2)))
            self.assertEqual(fraction(one.at((4,))), 3)
            self.assertEqual(numbers(one.put_in(0, 2)), (2,))
            check_raised(self, BadGiven, {"what": "point"}, one.at, ())
            check_raised(self, BadNumber, {"what": "place"}, one.put_in, 1, 2)
            check_raised(self, BadNumber, {"what": "size"}, lambda: one + plane(1))
        check_plane(self, one, [1, Fraction(1, 2)])
        check_plane(self, other, [-2, 3])


class AtTest(unittest.TestCase):
    def test_worth(self):
        rng = random.Random(5)
        for size in range(5):
            for one in some_planes(size):
                for number in (small_number, long_number):
                    point = [number(rng) for _ in range(size)]
                    given = [ratio(letter) for letter in point]
                    check_ratio(self, one.at(tuple(given)), worth(one, point))
                    check_ratio(self, one.at(given), worth(one, point))

    def test_integers_are_taken(self):
        check_ratio(self, plane(1, 2, 3).at((4, Ratio(1, 3))), 10)
        check_ratio(self, plane(1, 2, 3).at([0, -1]), -2)
        check_ratio(self, plane(7).at(()), 7)
        check_ratio(self, plane(7).at([]), 7)

    def test_wrong_points(self):
        for size in range(4):
            one = plane(*range(size + 1))
            for point in ((0,) * (size + 1), [0] * (size + 1), (0,) * (size + 4), None, 0, "0" * size, b"0" * size,
                          {at: at for at in range(size)}, set(range(size)), range(size), Ratio(1), one):
                check_raised(self, BadGiven, {"what": "point"}, one.at, point)
            if size > 0:
                check_raised(self, BadGiven, {"what": "point"}, one.at, (0,) * (size - 1))
                check_raised(self, BadGiven, {"what": "point"}, one.at, ())

    def test_wrong_items(self):
        for value in NO_RATIOS:
            for point in ((value, 1), [1, value], (value, value)):
                check_raised(self, BadGiven, {"what": "point"}, plane(1, 2, 3).at, point)
                check_raised(self, BadGiven, {"what": "point"}, plane(1, 0, 0).at, point)


class PutInTest(unittest.TestCase):
    def test_each_letter(self):
        rng = random.Random(6)
        for size in range(1, 5):
            for one in some_planes(size):
                for at in range(size):
                    letter = small_number(rng)
                    rest = list(numbers(one))
                    rest[0] += letter * rest.pop(at + 1)
                    check_plane(self, one.put_in(at, ratio(letter)), rest)
        check_plane(self, plane(1, 2, 3).put_in(1, 5), [16, 2])
        check_plane(self, plane(1, 2, 3).put_in(0, -5), [-9, 3])

    def test_wrong_places(self):
        for one, value in [(plane(1, 2, 3), 2), (plane(1, 2, 3), -1), (plane(1), 0), (plane(1), -1), (plane(1, 2), 7)]:
            check_raised(self, BadNumber, {"what": "place", "number": value}, one.put_in, value, 1)
            check_raised(self, BadNumber, {"what": "place", "number": value}, one.put_in, value, "x")
        for value in NO_NUMBERS + [Ratio(0), Ratio(1)]:
            check_raised(self, BadNumber, {"what": "place", "number": value}, plane(1, 2, 3).put_in, value, 1)
            check_raised(self, BadNumber, {"what": "place", "number": value}, plane(1, 2, 3).put_in, value, None)

    def test_wrong_ratios(self):
        for value in NO_RATIOS:
            check_raised(self, BadNumber, {"what": "fixed", "number": value}, plane(1, 2, 3).put_in, 1, value)


class MakingTest(unittest.TestCase):
    def test_number_planes(self):
        for size in range(5):
            for number in (0, 1, Fraction(-2, 3), Fraction(1, 10 ** 40)):
                check_plane(self, number_plane(ratio(number), size), [number] + [0] * size)
            check_plane(self, number_plane(-3, size), [-3] + [0] * size)

    def test_letter_planes(self):
        for size in range(1, 5):
            for at in range(size):
                expected = [0] * (size + 1)
                expected[at + 1] = 1
                check_plane(self, letter_plane(at, size), expected)

    def test_wrong_sizes(self):
        for value in NO_NUMBERS + [-1, -7, Ratio(2)]:
            fields = {"what": "size", "number": value}
            for first in (0, 1, "x", None, True, -1):
                check_raised(self, BadNumber, fields, number_plane, first, value)
                check_raised(self, BadNumber, fields, letter_plane, first, value)

    def test_wrong_numbers(self):
        for value in NO_RATIOS:
            for size in (0, 2):
                check_raised(self, BadNumber, {"what": "fixed", "number": value}, number_plane, value, size)

    def test_wrong_letters(self):
        for value, size in [(0, 0), (-1, 0), (-1, 2), (2, 2), (5, 2)]:
            check_raised(self, BadNumber, {"what": "place", "number": value}, letter_plane, value, size)
        for value in NO_NUMBERS + [Ratio(0), Ratio(1)]:
            check_raised(self, BadNumber, {"what": "place", "number": value}, letter_plane, value, 2)


class FractionsTest(unittest.TestCase):
    def test_slopes_are_their_fractions(self):
        self.assertEqual(fractions(plane(1, Fraction(2, 3), -4).slopes), (Fraction(2, 3), -4))


if __name__ == "__main__":
    unittest.main()
