import random
import unittest
from fractions import Fraction

from checking import (belongs, check_raised, check_ratio, check_tuple_of_ratios, check_weights, closed_belongs, fraction,
                      fractions, mixture, numbers, place, plane, shown, worth)
from hingeworks.empties import point_of
from hingeworks.errors import BadNumber, EmptyPlace
from hingeworks.extremes import Extreme, greatest, least
from hingeworks.places import Place
from hingeworks.ratios import Ratio
from making import long_number, random_plane, some_places

TINY = Fraction(1, 10 ** 40 + 1)
LONG = Fraction(10 ** 40 - 3, 10 ** 39 + 1)
STEPS = [1, Fraction(1, 2), Fraction(999, 1000), Fraction(1, 10 ** 60)]

TRIANGLE = place(2, (0, 1, 0, ">="), (0, 0, 1, ">="), (1, -1, -1, ">="))
OPEN = place(2, (0, 1, 0, ">"), (0, 0, 1, ">"), (1, -1, -1, ">"))
HALF_OPEN = place(1, (0, 1, ">="), (1, -1, ">"))
POINT = place(1, (-LONG, 1, ">="), (LONG, -1, ">="))
CONE = place(2, (0, 1, 0, ">"), (0, -1, 1, ">="))

# A plane, a place, the greatest worth and the least one, each as a kind and a value.
CASES = [
    (plane(0, 1, 0), TRIANGLE, ("reached", 1), ("reached", 0)),
    (plane(3, 2, 1), TRIANGLE, ("reached", 5), ("reached", 3)),
    (plane(0, 1, 1), TRIANGLE, ("reached", 1), ("reached", 0)),
    (plane(1, -1, -1), TRIANGLE, ("reached", 1), ("reached", 0)),
    (plane(LONG, LONG, 0), TRIANGLE, ("reached", 2 * LONG), ("reached", LONG)),
    (plane(0, 1, 0), OPEN, ("near", 1), ("near", 0)),
    (plane(0, 1, 1), OPEN, ("near", 1), ("near", 0)),
    (plane(TINY, TINY, LONG), OPEN, ("near", LONG + TINY), ("near", TINY)),
    (plane(5, 0, 0), OPEN, ("reached", 5), ("reached", 5)),
    (plane(0, 0, 0), OPEN, ("reached", 0), ("reached", 0)),
    (plane(0, 1), HALF_OPEN, ("near", 1), ("reached", 0)),
    (plane(2, -3), HALF_OPEN, ("reached", 2), ("near", -1)),
    (plane(0, Fraction(1, 3)), HALF_OPEN, ("near", Fraction(1, 3)), ("reached", 0)),
    (plane(0, 1), POINT, ("reached", LONG), ("reached", LONG)),
    (plane(1, -1), POINT, ("reached", 1 - LONG), ("reached", 1 - LONG)),
    (plane(0, 1, 0), CONE, ("endless", None), ("near", 0)),
    (plane(0, 0, 1), CONE, ("endless", None), ("near", 0)),
    (plane(0, 1, -1), CONE, ("reached", 0), ("endless", None)),
    (plane(7, -1, 0), CONE, ("near", 7), ("endless", None)),
    (plane(0, -1, 2), CONE, ("endless", None), ("near", 0)),
    (plane(0, 2, -1), CONE, ("endless", None), ("endless", None)),
    (plane(Fraction(-2, 3)), Place([], 0), ("reached", Fraction(-2, 3)), ("reached", Fraction(-2, 3))),
    (plane(0), place(0, (1, ">")), ("reached", 0), ("reached", 0)),
    (plane(4, 0), Place([], 1), ("reached", 4), ("reached", 4)),
    (plane(4, 1), Place([], 1), ("endless", None), ("endless", None)),
    (plane(4, -TINY), Place([], 1), ("endless", None), ("endless", None)),
    (plane(0, 1, 0), place(2, (1, 0, 1, ">")), ("endless", None), ("endless", None)),
    (plane(0, 0, 1), place(2, (1, 0, 1, ">")), ("endless", None), ("near", -1)),
    (plane(0, 0, 3), place(2, (1, 0, 1, ">="), (5, 0, 0, ">")), ("endless", None), ("reached", -3)),
    (plane(0, 1, 1), place(2, (0, 1, 1, ">="), (2, -1, -1, ">")), ("near", 2), ("reached", 0)),
    (plane(0, 1, 0), place(2, (0, 1, 0, ">="), (0, -1, 0, ">="), (0, 0, 1, ">")), ("reached", 0), ("reached", 0)),
    # The greatest worth lies on a rim that is not in the place, and on one that is.
    (plane(0, 1, 0), place(2, (1, -1, 0, ">="), (1, -1, 0, ">")), ("near", 1), ("endless", None)),
    (plane(0, 1, 0), place(2, (1, -1, 0, ">="), (2, -1, 0, ">")), ("reached", 1), ("endless", None)),
    # Only the corner of a rim is missing, and it is the only one with the value.
    (plane(0, 1, 1), place(2, (1, -1, 0, ">="), (1, 0, -1, ">="), (3, -2, -1, ">")), ("near", 2), ("endless", None)),
    (plane(0, 1, 0), place(2, (1, -1, 0, ">="), (1, 0, -1, ">="), (3, -2, -1, ">")), ("reached", 1),
     ("endless", None)),
    (plane(0, 1, 1, 1, 1, 1, 1), place(6, (LONG, -1, -1, -1, -1, -1, -1, ">")), ("near", LONG), ("endless", None)),
]


def whole_number(rng):
    return Fraction(rng.randint(-2, 2))


def moved(point, way, step):
    return tuple(letter + step * part for letter, part in zip(fractions(point), fractions(way)))


class ExtremesTest(unittest.TestCase):
    def check(self, one, where, sign):
        """All that is told of the greatest (sign 1) or least (sign -1) worth; returns its kind and its value."""
        before = numbers(one), shown(where)
        found = greatest(one, where) if sign == 1 else least(one, where)
        self.assertEqual((numbers(one), shown(where)), before)
        self.assertIs(type(found), Extreme)
        check_tuple_of_ratios(self, found.point, where.size)
        if found.kind == "endless":
            self.check_endless(found, one, where, sign)
            return found.kind, None
        check_ratio(self, found.value)
        value = fraction(found.value)
        self.assertEqual(worth(one, fractions(found.point)), value)
        self.check_bound(found, one, where, sign)
        if found.kind == "near":
            self.check_near(found, where)
        else:
            self.assertEqual(found.kind, "reached")
            self.assertIsNone(found.way)
            self.assertTrue(belongs(where, fractions(found.point)))
        return found.kind, value

    def check_endless(self, found, one, where, sign):
        check_tuple_of_ratios(self, found.way, where.size)
        self.assertEqual((found.value, found.weights, found.bottom), (None, None, None))
        for step in [0, 7, 10 ** 90] + STEPS:
            self.assertTrue(belongs(where, moved(found.point, found.way, step)))
        growth = worth(one, moved(found.point, found.way, 1)) - worth(one, fractions(found.point))
        self.assertGreater(sign * growth, 0)
        # All planes but number ones stay or grow, so the way never ends.
        for part, _ in where.rows:
            self.assertGreaterEqual(worth(part, moved(found.point, found.way, 1)), worth(part, fractions(found.point)))

    def check_bound(self, found, one, where, sign):
        check_weights(self, found.weights, where)
        self.assertIs(type(found.bottom), int)
        self.assertGreaterEqual(found.bottom, 1)
        fixed, *slopes = numbers(one)
        gap = [fraction(found.value) - fixed] + [-slope for slope in slopes]
        expected = tuple(found.bottom * sign * item for item in gap)
        self.assertEqual(mixture(found.weights, where), expected)

    def check_near(self, found, where):
        check_tuple_of_ratios(self, found.way, where.size)
        self.assertTrue(closed_belongs(where, fractions(found.point)))
        for step in STEPS:
            self.assertTrue(belongs(where, moved(found.point, found.way, step)))
        self.assertTrue(any(weight > 0 and row[1] for weight, row in zip(found.weights, where.rows)))

    def test_told_cases(self):
        for one, where, most, fewest in CASES:
            self.assertEqual(self.check(one, where, 1), most, (numbers(one), shown(where)))
            self.assertEqual(self.check(one, where, -1), fewest, (numbers(one), shown(where)))
            turned = [(kind, None if value is None else -value) for kind, value in (fewest, most)]
            self.assertEqual([self.check(-one, where, sign) for sign in (1, -1)], turned)

    def test_any_order_of_rows(self):
        rng = random.Random(3)
        for one, where, most, fewest in CASES:
            for _ in range(3):
                rows = list(where.rows)
                rng.shuffle(rows)
                other = Place(rows, where.size)
                self.assertEqual([self.check(one, other, sign) for sign in (1, -1)], [most, fewest])

    def test_an_example_in_which_hasty_pivots_go_in_a_circle(self):
        rng = random.Random(14)
        hundredth = Fraction(1, 100)
        aim = [75 * hundredth, -150, 2 * hundredth, -6]
        rows = [[-25 * hundredth, 60, 4 * hundredth, -9], [-50 * hundredth, 90, 2 * hundredth, -3], [0, 0, -1, 0]]
        rows += [[1 if at == letter else 0 for at in range(4)] for letter in range(4)]
        for _ in range(40):
            order = rng.sample(range(4), 4)
            told = [(1 if row[2] == -1 else 0, *[row[at] for at in order], ">=") for row in rng.sample(rows, len(rows))]
            where = place(4, *told)
            self.assertEqual(self.check(plane(0, *[aim[at] for at in order]), where, 1), ("reached", 5 * hundredth))

    def test_many_places(self):
        rng = random.Random(4)
        kinds = []
        for where in some_places(rng, 120):
            if point_of(where) is None:
                continue
            for one in self.some_planes(rng, where):
                kinds += [self.check(one, where, sign)[0] for sign in (1, -1)]
        for kind in ("reached", "near", "endless"):
            self.assertGreater(kinds.count(kind), 100, kind)

    def some_planes(self, rng, where):
        """Numbers, planes of rows, mixtures of rows and their opposites, and any plane."""
        yield plane(rng.randint(-3, 3), *[0] * where.size)
        yield random_plane(rng, where.size, long_number if rng.random() < 0.2 else whole_number)
        mixed = plane(rng.randint(-3, 3), *[0] * where.size)
        for part, _ in where.rows:
            mixed = mixed + part * rng.choice([0, 0, 1, 2])
        yield mixed
        if where.rows:
            yield rng.choice(where.rows)[0]

    def test_a_strict_row_on_the_other_side_changes_nothing(self):
        for number in (TINY, 1, LONG):
            where = place(1, (0, 1, ">"), (number, -1, ">="))
            self.assertEqual(self.check(plane(0, 1), where, 1), ("reached", number))
            self.assertEqual(self.check(plane(0, 1), where, -1), ("near", 0))

    def test_empty_places(self):
        for where in (place(1, (0, 1, ">"), (0, -1, ">")), place(1, (-1, 0, ">=")), place(1, (0, 0, ">")),
                      place(1, (0, 1, ">="), (-TINY, -1, ">="))):
            for one in (plane(0, 1), plane(0, 0), plane(3, -LONG)):
                before = shown(where)
                check_raised(self, EmptyPlace, {}, greatest, one, where)
                check_raised(self, EmptyPlace, {}, least, one, where)
                self.assertEqual(shown(where), before)
        check_raised(self, EmptyPlace, {}, greatest, plane(1), place(0, (0, ">")))
        check_raised(self, EmptyPlace, {}, least, plane(1), place(0, (0, ">")))

    def test_unlike_sizes(self):
        for one, where in [(plane(1), TRIANGLE), (plane(1, 2), TRIANGLE), (plane(1, 2, 3), HALF_OPEN),
                           (plane(1, 2), Place([], 0)), (plane(1, 2), place(2, (0, 0, 0, ">"))),
                           (plane(1, 0, 0), place(1, (-1, 0, ">=")))]:
            fields = {"what": "size", "number": where.size}
            check_raised(self, BadNumber, fields, greatest, one, where)
            check_raised(self, BadNumber, fields, least, one, where)

    def test_asked_again(self):
        for one, where, _, _ in CASES:
            for ask in (greatest, least):
                first, again = ask(one, where), ask(one, where)
                for name in ("kind", "value", "point", "way", "weights", "bottom"):
                    self.assertEqual(getattr(first, name), getattr(again, name))


class ExtremeTest(unittest.TestCase):
    def test_attributes(self):
        point, way = (Ratio(1), Ratio(2)), (Ratio(0), Ratio(-1, 2))
        made = Extreme("near", Ratio(3, 2), point, way, (1, 0, 2), 5)
        self.assertEqual((made.kind, made.value, made.point), ("near", Ratio(3, 2), point))
        self.assertEqual((made.way, made.weights, made.bottom), (way, (1, 0, 2), 5))

    def test_what_is_left_out_is_none(self):
        made = Extreme("endless", None, (Ratio(1),), (Ratio(2),), None, None)
        self.assertEqual((made.value, made.weights, made.bottom), (None, None, None))
        made = Extreme("reached", Ratio(1), (), None, (), 1)
        self.assertEqual((made.way, made.weights, made.point), (None, (), ()))


if __name__ == "__main__":
    unittest.main()
