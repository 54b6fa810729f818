import random
import unittest
from fractions import Fraction

from checking import check_raised, check_ratio, fraction, fractions, numbers, plane, ratio
from hingeworks.bends import creases
from hingeworks.errors import BadGiven, NotPlain, TooLarge, TooLong, Unlike
from hingeworks.features import Features
from hingeworks.models import Model
from hingeworks.onelayer import Layer, Stop, layer_model, one_layer
from hingeworks.ratios import Ratio
from judging import gcd_of, told_at
from test_bends import PLANE, X, continuous_texts, whole

HALF = Fraction(1, 2)


def layer_worth(layer, point):
    """The worth by its description, with Fractions."""
    def at(row):
        return row[0] + sum(share * item for share, item in zip(row[1:], point))

    return at(numbers(layer.plane)) + sum(fraction(share) * abs(at(row)) for row, share in layer.multiples)


def random_layer(rng, size, many):
    found = {}
    for _ in range(many):
        row = [rng.randint(-3, 3) for _ in range(size + 1)]
        if any(row[1:]):
            common = 0
            for item in row:
                common = gcd_of(common, item)
            sign = 1 if next(item for item in row[1:] if item) > 0 else -1
            found[tuple(sign * item // common for item in row)] = Ratio(rng.choice([-3, -1, 1, 2, 5]), rng.choice([1, 2, 7]))
    return Layer(plane(*[rng.randint(-3, 3) for _ in range(size + 1)]), sorted(found.items()))


def random_points(rng, size, many):
    return [tuple(Fraction(rng.randint(-20, 20), rng.choice([1, 2, 3])) for _ in range(size)) for _ in range(many)]


class OneLayerTest(unittest.TestCase):
    def check(self, rng, text):
        """Whether the model is one layer; the Layer or the Stop is checked."""
        model = Model(text)
        found, bent = one_layer(model), creases(model)
        several = [crease for crease in bent if len(crease.bends) > 1]
        self.assertIs(type(found), Stop if several else Layer)
        if several:
            first = several[0]
            self.assertEqual((found.row, found.bends), (first.row, first.bends[:2]))
            self.assertEqual((type(found.row), type(found.bends), type(found.points)), (tuple, tuple, tuple))
            self.assertEqual(found.points, first.points[:2])
            return False
        self.assertEqual(found.multiples, tuple((crease.row, crease.bends[0]) for crease in bent))
        self.assertEqual(found.size, len(model.features.names))
        for point in random_points(rng, found.size, 8):
            self.assertEqual(layer_worth(found, point), told_at(whole(text), point))
        return True

    def test_models_that_are_one_layer(self):
        rng = random.Random(201)
        for text, fixed, multiples in [
            (X + "sum f 1 x 2", (1, 2), []), (X + "hinge f 0 x 1", (0, HALF), [((0, 1), HALF)]),
            (X + "hinge f 3 x -2", (Fraction(3, 2), -1), [((-3, 2), HALF)]),
            (X + "clip f 0 1 0 x 1", (HALF, 0), [((-1, 1), -HALF), ((0, 1), HALF)]),
            ("fraction x from 5 to 6\nleaky f -1 0 x 1", (0, 0), [((0, 1), 1)]),
            (PLANE + "highest f 0 x 1 , 0 y 1", (0, HALF, HALF), [((0, 1, -1), HALF)]),
        ]:
            self.assertTrue(self.check(rng, text))
            found = one_layer(Model(text))
            self.assertEqual(numbers(found.plane), fixed)
            self.assertEqual([(row, fraction(share)) for row, share in found.multiples], multiples)

    def test_models_that_are_none(self):
        rng = random.Random(202)
        text = PLANE + "hinge a 0 x 1\nhighest f 0 , 0 y 1 a -1"
        self.assertFalse(self.check(rng, text))
        found = one_layer(Model(text))
        self.assertEqual((found.row, tuple(fraction(bend) for bend in found.bends)), ((0, 0, 1), (0, HALF)))
        for bend, point in zip(found.bends, found.points):
            self.assertEqual(fraction(point[1]), 0)
            self.assertEqual(bend == 0, fraction(point[0]) > 0)
        # Three bends: the two least ones are told.
        text = (PLANE + "leaky a -1 0 y 1\nleaky b -1 0 x 1 a -1\nclip c 0 1 0 x 1\nleaky d -1 0 y 1 c -3\n"
                "sum f 0 b 1 d 1")
        self.check(rng, text)

    def test_many_models(self):
        rng = random.Random(203)
        found = [self.check(rng, text) for text in continuous_texts(rng, 120)]
        self.assertGreater(min(sum(found), len(found) - sum(found)), 10)

    def test_forms_are_equal_just_for_equal_models(self):
        rng = random.Random(204)
        for turn in range(30):
            layer = random_layer(rng, 1 + turn % 3, 4)
            features = Features("\n".join(f"fraction {name}" for name in "xyz"[:layer.size]))
            found = one_layer(layer_model(layer, features))
            self.assertEqual((found.plane, found.multiples), (layer.plane, layer.multiples))


class LayerTest(unittest.TestCase):
    def test_layers_at_points(self):
        layer = Layer(plane(1, 2, 3), [((-3, 0, 2), ratio(HALF)), ((0, 1, -1), -2)])
        self.assertEqual(layer.size, 2)
        self.assertIs(type(layer.multiples), tuple)
        for pair in layer.multiples:
            self.assertEqual((type(pair), type(pair[0]), type(pair[1])), (tuple, tuple, Ratio))
        rng = random.Random(205)
        for point in random_points(rng, 2, 20) + [(0, 0), (1, 1), (0, Fraction(3, 2))]:
            given = tuple(ratio(item) for item in point)
            for kind in (tuple, list):
                check_ratio(self, layer.at(kind(given)), layer_worth(layer, point))
        self.assertEqual(layer.at((1, 1)), Ratio(13, 2))
        self.assertEqual(Layer(plane(1, 2), []).at([5]), 11)
        # Worths of a row near 0, at 0 and at 1.
        bend = Layer(plane(0, 0), [((0, 1), 1)])
        for item in (0, 1, -1, HALF, -HALF, Fraction(1, 10 ** 30), Fraction(-1, 10 ** 30), Fraction(3, 2)):
            check_ratio(self, bend.at((ratio(item),)), abs(item))

    def test_lists_are_copied(self):
        row = [-3, 0, 2]
        multiples = [(row, 1)]
        layer = Layer(plane(1, 2, 3), multiples)
        row[0] = 7
        multiples.append((row, 1))
        self.assertEqual(layer.multiples, (((-3, 0, 2), Ratio(1)),))

    def test_points_that_are_none(self):
        for layer in (Layer(plane(1, 2, 3), [((0, 1, -1), -2)]), Layer(plane(1, 2, 3), [])):
            for point in ((), (1,), (1, 2, 3), None, 7, "ab", (1, True), [1, None], {1: 2, 3: 4}, (1.0, 1)):
                check_raised(self, BadGiven, {"what": "point"}, layer.at, point)

    def model(self, layer, features):
        """The model of a layer, after its lines are checked."""
        found = layer_model(layer, features)
        self.assertIs(type(found), Model)
        self.assertEqual(found.features, features)
        kinds = [found.kind_of(name) for name in found.names]
        self.assertEqual(kinds, ["hinge"] * len(layer.multiples) + ["sum"])
        return found

    def test_models_of_layers(self):
        rng = random.Random(206)
        for turn in range(60):
            layer = random_layer(rng, 1 + turn % 4, turn % 7)
            names = rng.sample(["x", "a", "b", "sum", "hinge", "from", "to", "abcdefghijkl"], layer.size)
            text = "\n".join(f"fraction {name}" for name in names)
            found = self.model(layer, Features(text))
            for point in random_points(rng, layer.size, 6):
                self.assertEqual(told_at(found.text, point), layer_worth(layer, point))

    def test_ranges_stay(self):
        layer = Layer(plane(1, 2), [((0, 1), 1)])
        features = Features("fraction b from -1 to 1 by 3")
        self.assertTrue(self.model(layer, features).text.startswith(features.text + "\n"))

    def test_common_names(self):
        features = Features("\n".join(f"fraction {name}" for name in "abcdef"))
        layer = random_layer(random.Random(207), 6, 30)
        found = self.model(layer, features)
        self.assertEqual(len(set(found.names) | set("abcdef")), len(found.names) + 6)
        for point in random_points(random.Random(3), 6, 3):
            self.assertEqual(told_at(found.text, point), layer_worth(layer, point))

    def many(self, size, many):
        return Layer(plane(*[0] * (size + 1)), [((at, 1, *[0] * (size - 1)), 1) for at in range(many)])

    def test_39_and_40_multiples(self):
        features = Features("fraction x")
        self.assertEqual(len(self.model(self.many(1, 39), features).names), 40)
        check_raised(self, TooLarge, {"what": "lines", "many": 41, "limit": 40}, layer_model, self.many(1, 40), features)
        check_raised(self, TooLarge, {"what": "lines", "many": 71, "limit": 40}, layer_model, self.many(1, 70), features)
        self.assertEqual(len(self.model(self.many(1, 0), features).names), 1)

    def test_the_order_of_errors(self):
        for text, name in [("yesno u", "u"), ("fraction x\nyesno u", "u"), ("yesno v\nyesno u\nfraction x", "v")]:
            check_raised(self, NotPlain, {"name": name}, layer_model, self.many(1, 40), Features(text))
        check_raised(self, Unlike, {"what": "features"}, layer_model, self.many(1, 40), Features("fraction x\nfraction y"))
        check_raised(self, Unlike, {"what": "features"}, layer_model, self.many(2, 40), Features("fraction x"))
        long = Ratio(1, 10 ** 4000)
        many = Layer(plane(0, 0), [((at, 1), long) for at in range(40)])
        check_raised(self, TooLarge, {"what": "lines", "many": 41, "limit": 40}, layer_model, many, Features("fraction x"))

    def test_long_numbers(self):
        features = Features("fraction x\nfraction y")
        number = Ratio(10 ** 399 + 1, 10 ** 399 + 7)
        layer = Layer(plane(0, 0, 0), [((-(10 ** 399) - 3, 10 ** 399 + 1, 5), number)])
        found = self.model(layer, features)
        for point in random_points(random.Random(4), 2, 3):
            self.assertEqual(told_at(found.text, point), layer_worth(layer, point))
        thousand = Layer(plane(0, 0, 0), [((1 - 10 ** 999, 10 ** 999, 7), Ratio(10 ** 999 + 1, 10 ** 999 + 7))])
        self.model(thousand, features)
        check_raised(self, TooLong, {"digits": 4001}, layer_model,
                     Layer(plane(0, 0, 0), [((0, 0, 1), Ratio(1, 10 ** 4000))]), features)


if __name__ == "__main__":
    unittest.main()
