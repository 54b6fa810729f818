import unittest
from fractions import Fraction
from itertools import product

from checking import NO_NUMBERS, check_raised, check_ratio, numbers, ratio
from hingeworks.errors import NoFeature
from hingeworks.features import Features
from hingeworks.models import Model
from hingeworks.planes import Plane
from hingeworks.ratios import Ratio

MIXED = "fraction x from -1/2 to 3 by 2\nyesno u by 1/3\nfraction y from 0\nyesno v\nfraction z to 7\nfraction w"
NO_NAMES = [*NO_NUMBERS, 1, 0, "a", "X", "x ", " x", "fraction", ["x"], ("x",), {"x": 1}, b"x", Ratio(1),
            "abcdefghijklmno"]


class FeaturesTest(unittest.TestCase):
    def test_attributes(self):
        features = Features(MIXED)
        self.assertEqual(features.text, MIXED)
        self.assertEqual(features.names, ("x", "u", "y", "v", "z", "w"))
        self.assertEqual(features.fractions, ("x", "y", "z", "w"))
        self.assertEqual(features.yesnos, ("u", "v"))
        for kept in (features.names, features.fractions, features.yesnos):
            self.assertIs(type(kept), tuple)
        plain = Features("yesno u")
        self.assertEqual((plain.names, plain.fractions, plain.yesnos), (("u",), (), ("u",)))

    def test_ends_and_units(self):
        features = Features(MIXED)
        told = {"x": (Fraction(-1, 2), 3, 2), "u": (0, 1, Fraction(1, 3)), "y": (0, None, 1), "v": (0, 1, 1),
                "z": (None, 7, 1), "w": (None, None, 1)}
        for name, (low, high, unit) in told.items():
            for found, expected in ((features.low(name), low), (features.high(name), high)):
                if expected is None:
                    self.assertIsNone(found)
                else:
                    check_ratio(self, found, expected)
            check_ratio(self, features.unit(name), unit)

    def test_no_feature(self):
        features = Features("fraction x\nyesno u")
        model = Model("fraction x\nyesno u\nsum f 0")
        for one in (features, model.features):
            for ask in (one.low, one.high, one.unit):
                for name in NO_NAMES + ["f", "u\n", "x\nyesno u"]:
                    check_raised(self, NoFeature, {"name": name}, ask, name)

    def test_features_are_equal_if_their_texts_are(self):
        self.assertEqual(Features(MIXED), Features(MIXED))
        self.assertIs(Features("fraction x") == Features("fraction x"), True)
        self.assertIs(Features("fraction x") != Features("fraction x"), False)
        for other in (Features("fraction y"), Features("yesno x"), Features("fraction x from 0"), "fraction x", None, 1,
                      ("x",),
                      Model("fraction x\nsum f 0")):
            self.assertIs(Features("fraction x") == other, False)
            self.assertIs(other == Features("fraction x"), False)

    def test_what_fits(self):
        features = Features("fraction x from -1/2 to 3\nyesno u\nfraction y from 0")
        self.assertIs(features.fits((Ratio(1), 1, 0)), True)
        for x, u, y in product((Ratio(-1, 2), 0, Ratio(3), 3), (0, 1, Ratio(0), Ratio(1)),
                               (0, Ratio(10 ** 400, 7), 10 ** 400)):
            self.assertIs(features.fits((x, u, y)), True)
        tiny = Ratio(1, 10 ** 300)
        wrong = [[Ratio(-1, 2) - tiny, Ratio(3) + tiny, -1, 4], [-1, 2, Ratio(1, 2), tiny, Ratio(1) - tiny],
                 [-1, -tiny]]
        for place, values in enumerate(wrong):
            for value in values + NO_NUMBERS + ["x", (0,), [0]]:
                given = [1, 1, 1]
                given[place] = value
                self.assertIs(features.fits(tuple(given)), False, (place, value))

    def test_what_does_not_fit_as_a_whole(self):
        features = Features("fraction x from -1/2 to 3\nyesno u\nfraction y from 0")
        for given in ((), (1,), (1, 1), (1, 1, 1, 1), [1, 1, 1], {0: 1, 1: 1, 2: 1}, "111", None, 1, True, Ratio(1),
                      ((1, 1, 1),),
                      iter((1, 1, 1)), {1}, b"\x01\x01\x01"):
            self.assertIs(features.fits(given), False, given)
        self.assertIs(Features("yesno u").fits((0,)), True)
        self.assertIs(Features("fraction x").fits((Ratio(-10 ** 500, 3),)), True)

    def test_an_end_alone(self):
        low, high = Features("fraction x from 1"), Features("fraction x to 1")
        for number, above, below in ((0, False, True), (1, True, True), (2, True, False)):
            self.assertIs(low.fits((number,)), above)
            self.assertIs(high.fits((number,)), below)

    def test_place_rows(self):
        rows = Features(MIXED).place_rows()
        self.assertIs(type(rows), tuple)
        expected = [(Fraction(1, 2), 1, 0, 0, 0), (3, -1, 0, 0, 0), (0, 0, 1, 0, 0), (7, 0, 0, -1, 0)]
        self.assertEqual([numbers(plane) for plane, _ in rows], expected)
        for row in rows:
            self.assertIs(type(row), tuple)
            self.assertIs(type(row[0]), Plane)
            self.assertIs(row[1], False)
        self.assertEqual(Features("yesno u").place_rows(), ())
        self.assertEqual(Features("fraction x").place_rows(), ())
        (row,) = Features("yesno u\nfraction x to 1/3").place_rows()
        self.assertEqual(row, (Plane(ratio("1/3"), [-1]), False))

    def test_all_settings(self):
        self.assertEqual(Features("fraction x").all_settings(), ((),))
        self.assertEqual(Features("yesno u").all_settings(), ((0,), (1,)))
        self.assertEqual(Features("yesno u\nfraction x\nyesno v").all_settings(), ((0, 0), (0, 1), (1, 0), (1, 1)))
        found = Features("yesno u\nyesno w\nyesno v").all_settings()
        self.assertEqual(found, tuple(product((0, 1), repeat=3)))
        self.assertIs(type(found), tuple)
        for settings in found:
            self.assertIs(type(settings), tuple)
            self.assertEqual([type(item) for item in settings], [int] * 3)

    def test_asked_again(self):
        features = Features(MIXED)
        self.assertEqual(features.place_rows(), features.place_rows())
        self.assertEqual(features.all_settings(), features.all_settings())
        given = [1, 1, 1, 1, 1, 1]
        features.fits(given)
        self.assertEqual(given, [1] * 6)
        self.assertEqual(features, Features(MIXED))


if __name__ == "__main__":
    unittest.main()
