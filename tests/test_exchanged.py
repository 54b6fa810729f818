import random
import unittest
from fractions import Fraction

from checking import NO_NUMBERS, check_raised, fractions
from hingeworks.errors import NoFeature, TooLarge, Unlike
from hingeworks.exchanged import exchanged
from hingeworks.models import Model
from judging import check_given, random_given, told_at
from modeltexts import random_text
from reference import Text

PAIR = "fraction x\nfraction y\n"
SQUARE = "fraction x from 0 to 1\nfraction y from 0 to 1\n"
MIXED = "fraction x from 0 to 1 by 2\nyesno u\nfraction y from 0 to 1 by 2\nyesno v\n"


def swapped(text, given, one, two):
    names = Text(text).names
    mixed = list(given)
    mixed[names.index(one)], mixed[names.index(two)] = given[names.index(two)], given[names.index(one)]
    return tuple(mixed)


class ExchangedTest(unittest.TestCase):
    def differs(self, text, one, two):
        """Whether the exchange changes a result, after both inputs are evaluated."""
        found = exchanged(Model(text), one, two)
        if found is None:
            return False
        self.assertIs(type(found), tuple)
        first, second = found
        numbers = check_given(self, text, first)
        self.assertEqual(check_given(self, text, second), swapped(text, numbers, one, two))
        self.assertNotEqual(told_at(text, numbers), told_at(text, fractions(second)))
        return True

    def both(self, text, one, two):
        found = self.differs(text, one, two)
        self.assertEqual(self.differs(text, two, one), found)
        return found

    def test_fractions(self):
        for lines, expected in [
            ("sum f 0 x 1 y 1", False), ("sum f 0 x 1 y 2", True), ("sum f 3", False), ("sum f 0 x 1", True),
            ("hinge f 0 x 1 y 1", False), ("hinge f 0 x 1 y -1", True), ("highest f 0 x 1 , 0 y 1", False),
            ("highest f 0 y 1 , 0 x 1 , 1/2", False), ("sign s no yes -1 x 1 y 1", False),
            ("sign s no yes 0 x 1 y -1", True), ("hinge a 0 x 1 y -1\nhinge b 0 x -1 y 1\nsum f 0 a 1 b 1", False),
            ("hinge a 0 x 1 y -1\nhinge b 0 x -1 y 1\nsum f 0 a 1 b 2", True),
            ("near n 1 x 1 y 1\nrow a 0 1\nrow a 1 0\nrow b 0 0", False),
            ("near n 1 x 1 y 2\nrow a 1 1\nrow b 0 0", True),
        ]:
            for features in (PAIR, SQUARE, "fraction x by 3\nyesno u\nfraction y by 3\n"):
                self.assertEqual(self.both(features + lines, "x", "y"), expected, lines)

    def test_yesno_features(self):
        for lines, expected in [
            ("sum f 0 u 1 v 1", False), ("sum f 0 u 1 v 2", True), ("sum f 0 x 7", False), ("sign s no yes -1 u 1 v 1", False),
            ("sign s no yes 0 u 1 v -1", True), ("sign s no yes -2 u 1 v -1", False),
            ("hinge f -1/2 x 1 u 1 v -1", True), ("hinge f -2 x 1 u 1 v -1", False),
        ]:
            self.assertEqual(self.both(MIXED + lines, "u", "v"), expected, lines)
        self.assertFalse(self.both("yesno u\nyesno v\nyesno w\nsum f 0 u 1 v 1 w 2", "u", "v"))
        self.assertTrue(self.both("yesno u\nyesno v\nyesno w\nsum f 0 u 1 v 1 w 2", "u", "w"))

    def test_models_that_differ_at_one_number_alone(self):
        dot = "tree t\nask -1/2 x 1\nask 1/2 x -1\ntell {}\ntell 0\ntell 0"
        self.assertTrue(self.both(SQUARE + dot.format("1"), "x", "y"))
        self.assertTrue(self.both(SQUARE + dot.format("-1/2 y 1"), "x", "y"))
        self.assertFalse(self.both(SQUARE + dot.format("-1/2 x 1"), "x", "y"))
        line = "tree t\nask 0 x 1 y -1\nask 0 x -1 y 1\ntell 7\ntell 0\ntell 0"
        self.assertFalse(self.both(PAIR + line, "x", "y"))
        self.assertTrue(self.both(PAIR + line.replace("ask 0 x 1", "ask 1 x 1").replace("ask 0 x -1", "ask -1 x -1"), "x", "y"))

    def test_a_feature_with_itself(self):
        model = Model(MIXED + "hinge f 0 x 1 u 2")
        for name in ("x", "u", "y", "v"):
            self.assertIsNone(exchanged(model, name, name))

    def test_many_models(self):
        rng = random.Random(161)
        same, unlike = 0, 0
        for turn in range(150):
            kinds = [rng.choice(["hinge", "sign", "highest", "tree", "choose", "near", "sum", "treeclass"])
                     for _ in range(rng.randint(1, 2))]
            features = [SQUARE, PAIR, MIXED, "yesno u\nyesno v\nfraction x\n"][turn % 4]
            text = random_text(rng, 0, 0, kinds, 0, Text(features + "sum f 0"))
            for one, two in (("x", "y"), ("u", "v")):
                if one in Text(text).names and two in Text(text).names:
                    if self.differs(text, one, two):
                        unlike += 1
                    else:
                        same += 1
                        for _ in range(6):
                            given = fractions(random_given(rng, text))
                            self.assertEqual(told_at(text, given), told_at(text, swapped(text, given, one, two)))
        self.assertGreater(min(same, unlike), 20)

    def test_models_that_are_made_to_stay_alike(self):
        rng = random.Random(162)
        for _ in range(30):
            a, b = rng.sample(range(1, 6), 2)
            c = rng.randint(1, 5)
            d = Fraction(rng.randint(1, 9), 10)
            rows = [f"hinge a -{d} x {a} y {b}", f"hinge b -{d} x {b} y {a}", f"sum f 0 x {c} y {c} a 1 b 1"]
            text = SQUARE + "\n".join(rows)
            self.assertFalse(self.both(text, "x", "y"))
            self.assertTrue(self.both(text.replace("a 1 b 1", "a 1 b 2"), "x", "y"))

    def test_unlike_features(self):
        for one, two in [("fraction x", "yesno y"), ("fraction x from 0 to 1", "yesno y"),
                         ("fraction x from 0", "fraction y"), ("fraction x to 1", "fraction y to 2"),
                         ("fraction x from 0 to 1", "fraction y from -1 to 1"), ("fraction x by 2", "fraction y"),
                         ("fraction x by 2", "fraction y by 3"), ("yesno x", "yesno y by 2"),
                         ("fraction x from 0", "fraction y to 0")]:
            model = Model(f"{one}\n{two}\nsum f 5")
            check_raised(self, Unlike, {"what": "features"}, exchanged, model, "x", "y")
            check_raised(self, Unlike, {"what": "features"}, exchanged, model, "y", "x")
            self.assertIsNone(exchanged(model, "x", "x"))
        for line in ("fraction {} from 1/2 to 3 by 7", "yesno {} by 2", "fraction {} to -1"):
            self.assertIsNone(exchanged(Model("\n".join([line.format("x"), line.format("y"), "sum f 5"])), "x", "y"))

    def with_switches(self, many, features):
        return Model(features + "highest h " + " , ".join(["0"] * (many + 1)))

    def test_the_order_of_errors(self):
        unlike = "fraction x\nfraction y by 2\n"
        for name in ("h", "z", "", *NO_NUMBERS, ["x"]):
            for features in (unlike, PAIR):
                model = self.with_switches(40, features)
                check_raised(self, NoFeature, {"name": name}, exchanged, model, name, "x")
                check_raised(self, NoFeature, {"name": name}, exchanged, model, "x", name)
                check_raised(self, NoFeature, {"name": name}, exchanged, model, name, "zz")
                check_raised(self, NoFeature, {"name": "zz"}, exchanged, model, "zz", name)
        check_raised(self, Unlike, {"what": "features"}, exchanged, self.with_switches(40, unlike), "x", "y")
        for many in (21, 40):
            for two in ("x", "y"):
                fields = {"what": "switches", "many": 2 * many, "limit": 40}
                check_raised(self, TooLarge, fields, exchanged, self.with_switches(many, PAIR), "x", two)
        self.assertIsNone(exchanged(self.with_switches(20, PAIR), "x", "y"))


if __name__ == "__main__":
    unittest.main()
