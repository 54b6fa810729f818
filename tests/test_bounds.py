import random
import unittest
from fractions import Fraction

from checking import (belongs, check_raised, check_ratio, check_tuple_of_ratios, check_weights, closed_belongs, fraction,
                      fractions, mixture, numbers, ratio, worth)
from hingeworks.alike import apart
from hingeworks.bounds import Worth, above, greatest_value, least_value, loss
from hingeworks.errors import TooLarge, Unlike
from hingeworks.extremes import Extreme, greatest
from hingeworks.models import Model
from hingeworks.planes import Plane
from hingeworks.unfolding import unfolded
from judging import check_given, moved, random_given, told_at
from modeltexts import random_text, some_texts
from reference import Text

X = "fraction x\n"
UNIT = "fraction x from 0 to 1\n"
HALF = Fraction(1, 2)
STEPS = [1, HALF, Fraction(999, 1000), Fraction(1, 10 ** 60)]


def turned(sign, row):
    return tuple(sign * item for item in row)


class BoundsTest(unittest.TestCase):
    def check_extreme(self, found, row, place):
        """It is a greatest worth of a plane, told by Fractions, over a place."""
        self.assertIs(type(found), Extreme)
        check_tuple_of_ratios(self, found.point, place.size)
        one = Plane(ratio(row[0]), [ratio(item) for item in row[1:]])
        point = fractions(found.point)
        if found.kind == "endless":
            self.assertEqual((found.value, found.weights, found.bottom), (None, None, None))
            for step in (0, 1, 10 ** 50):
                self.assertTrue(belongs(place, moved(point, fractions(found.way), step)))
            self.assertGreater(worth(one, moved(point, fractions(found.way), 1)), worth(one, point))
            return
        check_ratio(self, found.value, worth(one, point))
        check_weights(self, found.weights, place)
        gap = (fraction(found.value) - row[0], *turned(-1, row[1:]))
        self.assertGreaterEqual(found.bottom, 1)
        self.assertEqual(mixture(found.weights, place), turned(found.bottom, gap))
        if found.kind == "near":
            self.assertTrue(closed_belongs(place, point))
            self.assertTrue(any(weight > 0 and row[1] for weight, row in zip(found.weights, place.rows)))
            for step in STEPS:
                self.assertTrue(belongs(place, moved(point, fractions(found.way), step)))
        else:
            self.assertEqual((found.kind, found.way), ("reached", None))
            self.assertTrue(belongs(place, point))

    def check_worth(self, found, leaves, rows, sign):
        """The Worth is the greatest one of the planes, told by Fractions, on all leaves; the value has the sign."""
        self.assertIs(type(found), Worth)
        self.assertEqual((type(found.leaf), found.sign in (1, -1)), (int, True))
        leaf = leaves[found.leaf]
        self.assertEqual(found.settings, leaf.settings)
        own = found.extreme
        if sign == -1:
            value = None if own.value is None else -own.value
            own = Extreme(own.kind, value, own.point, own.way, own.weights, own.bottom)
        self.check_extreme(own, rows[found.leaf], leaf.place)
        best = None
        for row, one in zip(rows, leaves):
            other = greatest(Plane(ratio(row[0]), [ratio(item) for item in row[1:]]), one.place)
            if other.kind == "endless":
                best = (1, 0, 0)
                break
            best = max([(0, fraction(other.value), other.kind == "reached")] + ([best] if best else []))
        if best[0] == 1:
            self.assertEqual(own.kind, "endless")
        else:
            self.assertEqual((own.kind, fraction(own.value)), ("reached" if best[2] else "near", best[1]))
        return own

    def told(self, extreme):
        return extreme.kind, None if extreme.value is None else fraction(extreme.value)

    def bounds(self, text):
        """The greatest and the least value, each as a kind and a value, checked leaf by leaf."""
        model = Model(text)
        leaves = unfolded(model).leaves
        rows = [numbers(leaf.told[0]) for leaf in leaves]
        up, down = greatest_value(model), least_value(model)
        self.assertEqual((up.sign, down.sign), (1, 1))
        self.check_worth(up, leaves, rows, 1)
        self.check_worth(down, leaves, [turned(-1, row) for row in rows], -1)
        return self.told(up.extreme), self.told(down.extreme)

    def loss(self, one_text, other_text):
        """The kind, the value and the sign of the loss, checked leaf by leaf."""
        one, other = Model(one_text), Model(other_text)
        leaves = unfolded(one, other).leaves
        gaps = [tuple(here - there for here, there in zip(*[numbers(told) for told in leaf.told])) for leaf in leaves]
        found = loss(one, other)
        rows = [turned(found.sign, row) for row in gaps]
        own = self.check_worth(found, leaves, rows, 1)
        back = [turned(-1, row) for row in rows]
        for row, leaf in zip(back, leaves):
            there = greatest(Plane(ratio(row[0]), [ratio(item) for item in row[1:]]), leaf.place)
            if own.kind != "endless":
                self.assertNotEqual(there.kind, "endless")
                self.assertLessEqual(fraction(there.value), fraction(own.value))
                if there.value == own.value:
                    self.assertTrue(own.kind == "reached" or there.kind == "near")
        self.assertEqual(self.told(own) == ("reached", 0), apart(one, other) is None)
        return (*self.told(own), found.sign)

    def test_reached_near_and_endless(self):
        for features, lines, up, down in [
            (UNIT, "sum f 2 x 3", ("reached", 5), ("reached", 2)),
            (X, "sum f 2 x 3", ("endless", None), ("endless", None)),
            (X, "sum f 2", ("reached", 2), ("reached", 2)),
            ("fraction x from 0\n", "sum f 2 x 3", ("endless", None), ("reached", 2)),
            ("fraction x to 1/2\n", "sum f 2 x 3", ("reached", Fraction(7, 2)), ("endless", None)),
            (X, "hinge f 0 x -1", ("endless", None), ("reached", 0)),
            (UNIT, "tree t\nask -1/2 x 1\ntell 0 x 1\ntell 1 x -1", ("reached", HALF), ("reached", 0)),
            (UNIT, "tree t\nask -1/2 x 1\ntell 0\ntell 2 x -2", ("near", 1), ("reached", 0)),
            (UNIT, "tree t\nask -1/2 x 1\ntell 5 x 2\ntell 0 x 3", ("reached", 6), ("near", Fraction(3, 2))),
            (UNIT, "tree t\nask -1/2 x 1\ntell 2\ntell 2 x -2", ("reached", 2), ("reached", 0)),
            (X, "clip f 0 1 1/3 x 5", ("reached", 1), ("reached", 0)),
            ("yesno u\n", "sum f 1 u -3", ("reached", 1), ("reached", -2)),
        ]:
            self.assertEqual(self.bounds(features + lines), (up, down), lines)

    def test_the_value_of_a_thin_leaf(self):
        dot = "tree t\nask -1/2 x 1\nask 1/2 x -1\ntell 7\ntell 0\ntell 1"
        self.assertEqual(self.bounds(UNIT + dot), (("reached", 7), ("reached", 0)))
        self.assertEqual(self.bounds(UNIT + dot.replace("tell 7", "tell -7 x 1")),
                         (("reached", 1), ("reached", Fraction(-13, 2))))
        found = greatest_value(Model(UNIT + dot))
        self.assertEqual(found.extreme.point, (ratio(HALF),))

    def test_a_reached_value_comes_ahead_of_an_equal_near_one(self):
        near = "tree t\nask -1/2 x 1\ntell {}\ntell {}"
        for low, high in (("0 x 1", "1 x -1"), ("1/2", "1 x -1"), ("0 x 1", "1/2")):
            self.assertEqual(self.bounds(UNIT + near.format(low, high))[0], ("reached", HALF))
        # The near leaf stands first, then the other way round.
        first = "tree t\nask -1/2 x 1\ntell 1\ntell 5/2 x -1"
        self.assertEqual(self.bounds(UNIT + first)[0], ("near", 2))
        second = first.replace("tell 1\n", "tell 2\n")
        self.assertEqual(self.bounds(UNIT + second)[0], ("reached", 2))
        third = "tree t\nask -1/2 x 1\nask 1/4 x -1\ntell 2\ntell 9/4 x -1\ntell 2"
        self.assertEqual(self.bounds(UNIT + third)[0], ("reached", Fraction(9, 4)))
        fourth = "tree t\nask -1/2 x 1\nask -1/4 x 1\ntell 0\ntell 9/4 x -1\ntell 2"
        self.assertEqual(self.bounds(UNIT + fourth)[0], ("reached", 2))

    def test_the_settings_of_the_leaf(self):
        text = "yesno u\nfraction x from 0 to 1\nyesno v\nsum f 0 u 3 x 1 v -2"
        self.assertEqual(self.bounds(text), (("reached", 4), ("reached", -2)))
        self.assertEqual(greatest_value(Model(text)).settings, (1, 0))
        self.assertEqual(least_value(Model(text)).settings, (0, 1))

    def test_losses(self):
        for features, one, other, expected in [
            (UNIT, "sum f 0 x 2", "sum f 0 x 1", ("reached", 1, 1)),
            (UNIT, "sum f 0 x 1", "sum f 0 x 2", ("reached", 1, -1)),
            (UNIT, "sum f 0 x 2", "sum f 1/4 x 1", ("reached", Fraction(3, 4), 1)),
            (UNIT, "sum f 0 x 2", "sum f 3/4 x 1", ("reached", Fraction(3, 4), -1)),
            (X, "hinge f 0 x 1", "sum f 0 x 1", ("endless", None, 1)),
            (X, "sum f 0 x 1", "hinge f 0 x 1", ("endless", None, -1)),
            (UNIT, "tree t\nask -1/2 x 1\ntell 0\ntell 5/2 x -1", "sum f 0", ("near", 2, 1)),
            (UNIT, "sum f 0", "tree t\nask -1/2 x 1\ntell 0\ntell 5/2 x -1", ("near", 2, -1)),
            # 2 is near above, and reached below.
            (UNIT, "tree t\nask -1/2 x 1\ntell -2\ntell 5/2 x -1", "sum f 0", ("reached", 2, -1)),
            (UNIT, "sum f 0", "tree t\nask -1/2 x 1\ntell -2\ntell 5/2 x -1", ("reached", 2, 1)),
            (UNIT, "tree t\nask 0 x 1\ntell 3\ntell 0", "sum f 0", ("reached", 3, 1)),
            (X + "yesno u\n", "hinge f 0 u 5", "sum f 0 u 7", ("reached", 2, -1)),
        ]:
            self.assertEqual(self.loss(features + one, features + other), expected)

    def test_either_sign(self):
        for one, other in [("sum f 0 x 2", "sum f 1"), ("sum f 0 x 1", "sum f 1/2")]:
            kind, value, _ = self.loss(UNIT + one, UNIT + other)
            self.assertEqual((kind, value), ("reached", 1 if one == "sum f 0 x 2" else HALF))
        self.assertEqual(self.loss(X + "sum f 0 x 1", X + "sum f 0 x 2")[:2], ("endless", None))

    def test_the_loss_of_alike_models(self):
        for one, other in [("hinge h 0 x 1", "highest h 0 , 0 x 1"), ("sum f 3", "sum g 3"),
                           ("sum f 0 x 1", "hinge a 0 x 1\nhinge b 0 x -1\nsum f 0 a 1 b -1")]:
            for features in (X, UNIT, X + "yesno u\n"):
                self.assertEqual(self.loss(features + one, features + other)[:2], ("reached", 0))
        # Near 0 above, but 1 is reached below.
        drop = "tree t\nask 0 x 1\ntell -1\ntell 0 x -1"
        self.assertEqual(self.loss(UNIT + drop, UNIT + "sum f 0"), ("reached", 1, -1))

    def test_many_models(self):
        rng = random.Random(111)
        kinds = {}
        texts = list(some_texts(rng, 150, 3))
        texts += [random_text(rng, 1 + at % 2, at % 2, ["tree", "tree", "sum"], 1) for at in range(60)]
        for text in texts:
            if Model(text).tells == "class":
                continue
            other = random_text(rng, 0, 0, ["hinge", "sum"], 0, Text(text))
            bounds, lost = self.bounds(text), self.loss(text, other)
            for kind in (bounds[0][0], bounds[1][0], lost[0]):
                kinds[kind] = kinds.get(kind, 0) + 1
            for _ in range(5):
                given = [fraction(item) for item in random_given(rng, text)]
                value, beside = told_at(text, given), told_at(other, given)
                self.assertTrue(bounds[0][0] == "endless" or value <= bounds[0][1])
                self.assertTrue(bounds[1][0] == "endless" or value >= bounds[1][1])
                self.assertTrue(lost[0] == "endless" or abs(value - beside) <= lost[1])
        self.assertGreater(min(kinds.values()), 5)
        self.assertEqual(set(kinds), {"reached", "near", "endless"})

    def check_above(self, one_text, other_text, by):
        """Whether there is an input; it is checked by evaluating both models."""
        found = above(Model(one_text), Model(other_text), ratio(by))
        if found is None:
            return False
        given = check_given(self, one_text, found)
        self.assertGreater(told_at(one_text, given), told_at(other_text, given) + by)
        return True

    def test_above(self):
        one, other = UNIT + "sum f 0 x 2", UNIT + "sum f 0 x 1"
        for by, expected in [(1, False), (Fraction(999, 1000), True), (0, True), (-1, True), (2, False),
                             (1 - Fraction(1, 10 ** 50), True)]:
            self.assertEqual(self.check_above(one, other, by), expected)
        for by, expected in [(0, False), (-1, True), (Fraction(-1, 1000), True), (Fraction(1, 10), False)]:
            self.assertEqual(self.check_above(other, one, by), expected)
        self.assertFalse(self.check_above(one, one, 0))
        self.assertTrue(self.check_above(one, one, Fraction(-1, 10 ** 30)))
        self.assertTrue(self.check_above(X + "sum f 0 x 1", X + "sum f 0", 10 ** 60))
        near = UNIT + "tree t\nask -1/2 x 1\ntell 0\ntell 5/2 x -1"
        self.assertFalse(self.check_above(near, UNIT + "sum f 0", 2))
        self.assertTrue(self.check_above(near, UNIT + "sum f 0", 2 - Fraction(1, 10 ** 9)))
        dot = "fraction x\ntree t\nask 0 x 1\nask 0 x -1\ntell 7\ntell 0\ntell 0"
        self.assertTrue(self.check_above(dot, X + "sum f 0", 6))
        self.assertFalse(self.check_above(dot, X + "sum f 0", 7))

    def test_integers_and_ratios(self):
        one, other = Model(UNIT + "sum f 0 x 2"), Model(UNIT + "sum f 0 x 1")
        for by in (1, ratio(1), 5, ratio(Fraction(3, 2))):
            self.assertIsNone(above(one, other, by))
        for by in (0, ratio(0), -3, ratio(Fraction(1, 2))):
            self.assertIsNotNone(above(one, other, by))

    def test_above_and_the_loss(self):
        rng = random.Random(112)
        found = 0
        for text in some_texts(rng, 150, 3):
            if Model(text).tells == "class":
                continue
            other = random_text(rng, 0, 0, ["leaky", "sum"], 0, Text(text))
            kind, value, sign = self.loss(text, other)
            first, second = (text, other) if sign == 1 else (other, text)
            if kind == "endless":
                self.assertTrue(self.check_above(first, second, 1000))
                continue
            found += 1
            self.assertFalse(self.check_above(first, second, value))
            self.assertFalse(self.check_above(second, first, value))
            self.assertTrue(self.check_above(first, second, value - Fraction(1, 1000)))
        self.assertGreater(found, 5)

    def with_switches(self, many, features=X, last=""):
        return Model(features + "highest h " + " , ".join(["0"] * (many + 1)) + last)

    def test_the_order_of_errors(self):
        sign = "\nsign s no yes 0"
        told = self.with_switches(39, X, sign)
        for call in (greatest_value, least_value):
            check_raised(self, Unlike, {"what": "kind"}, call, told)
            self.assertEqual(call(self.with_switches(40)).extreme.value, 0)
        for call in (loss, lambda one, other: above(one, other, 1)):
            check_raised(self, Unlike, {"what": "features"}, call, self.with_switches(40), self.with_switches(39, UNIT, sign))
            check_raised(self, Unlike, {"what": "features"}, call, told, self.with_switches(39, UNIT, sign))
            for one, other in [(self.with_switches(40), told), (told, self.with_switches(40)), (told, told)]:
                check_raised(self, Unlike, {"what": "kind"}, call, one, other)
            check_raised(self, TooLarge, {"what": "switches", "many": 41, "limit": 40}, call, self.with_switches(20),
                         self.with_switches(21))
            call(self.with_switches(20), self.with_switches(20))


if __name__ == "__main__":
    unittest.main()
