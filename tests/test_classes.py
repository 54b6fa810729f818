import random
import unittest
from fractions import Fraction

from checking import check_raised, fraction
from hingeworks.classes import classes_met, classes_together
from hingeworks.errors import TooLarge, Unlike
from hingeworks.models import Model
from hingeworks.unfolding import unfolded
from judging import check_given, random_given, told_at
from modeltexts import random_text, some_texts
from reference import Text

X = "fraction x\n"
UNIT = "fraction x from 0 to 1\n"
DOT = "tree t\nask -1/2 x 1\nask 1/2 x -1\nclass dot\nclass low\nclass high"


class ClassesTest(unittest.TestCase):
    def met(self, text):
        """The classes that are met, after each input is evaluated."""
        found = classes_met(Model(text))
        self.assertIs(type(found), tuple)
        for pair in found:
            self.assertIs(type(pair), tuple)
            told, given = pair
            self.assertEqual(told_at(text, check_given(self, text, given)), told)
        return [told for told, _ in found]

    def together(self, one_text, other_text):
        """The pairs of classes that meet, after each input is evaluated."""
        found = classes_together(Model(one_text), Model(other_text))
        self.assertIs(type(found), tuple)
        for triple in found:
            self.assertIs(type(triple), tuple)
            first, second, given = triple
            numbers = check_given(self, one_text, given)
            self.assertEqual((told_at(one_text, numbers), told_at(other_text, numbers)), (first, second))
        return [(first, second) for first, second, _ in found]

    def test_classes_of_the_text_that_are_met_nowhere(self):
        self.assertEqual(self.met(X + "sign s no yes 0 x 1"), ["no", "yes"])
        self.assertEqual(self.met(X + "sign s no yes 0"), ["no"])
        self.assertEqual(self.met(X + "sign s no yes 1"), ["yes"])
        self.assertEqual(self.met(UNIT + "sign s no yes 0 x -1"), ["no"])
        self.assertEqual(self.met(UNIT + "sign s no yes -1 x 1"), ["no"])
        self.assertEqual(self.met(UNIT + "rules r\nif far -2 x 1\nif high -1/2 x 1\nif never -1/2 x 1\nelse low"),
                         ["high", "low"])

    def test_classes_that_are_met_on_thin_leaves_alone(self):
        self.assertEqual(self.met(UNIT + DOT), ["dot", "low", "high"])
        self.assertEqual(fraction(classes_met(Model(UNIT + DOT))[0][1][0]), Fraction(1, 2))
        self.assertEqual(self.met(UNIT + "sign s end in 0 x 1"), ["end", "in"])
        self.assertEqual(self.met("fraction x from 1\n" + DOT), ["high"])

    def test_the_order_is_that_of_the_classes_of_the_model(self):
        text = UNIT + "rules r\nif b -2/3 x 1\nif a -1/3 x 1\nif b 0\nelse c"
        self.assertEqual(Model(text).classes, ("b", "a", "c"))
        self.assertEqual(self.met(text), ["b", "a", "c"])
        self.assertEqual(self.met("yesno u\nsign s z a 0 u 1"), ["z", "a"])
        self.assertEqual(self.met("yesno u\nsign s z a 1 u -1"), ["z", "a"])

    def test_pairs_of_classes(self):
        one, other = X + "sign s no yes 0 x 1", X + "sign s no yes -1 x 1"
        self.assertEqual(self.together(one, other), [("no", "no"), ("yes", "no"), ("yes", "yes")])
        self.assertEqual(self.together(other, one), [("no", "no"), ("no", "yes"), ("yes", "yes")])
        self.assertEqual(self.together(one, one), [("no", "no"), ("yes", "yes")])
        self.assertEqual(self.together(one, X + "sign s yes no 0 x -1"), [("no", "yes"), ("no", "no"), ("yes", "yes")])
        self.assertEqual(self.together(UNIT + DOT, UNIT + "rules r\nif a -1/2 x 1\nelse z"),
                         [("dot", "z"), ("low", "z"), ("high", "a")])
        self.assertEqual(self.together(UNIT + "sign s no yes 0", UNIT + "sign s b a 0 x 1"), [("no", "b"), ("no", "a")])

    def test_many_models(self):
        rng = random.Random(121)
        many = 0
        for text in some_texts(rng, 250, 3):
            model = Model(text)
            if model.tells == "number":
                continue
            other = random_text(rng, 0, 0, [rng.choice(["sign", "choose", "rules"])], 0, Text(text))
            met, pairs = self.met(text), self.together(text, other)
            leaves = unfolded(model).leaves
            self.assertEqual(met, [told for told in model.classes if (told,) in [leaf.told for leaf in leaves]])
            self.assertEqual(pairs, [(one, two) for one in model.classes for two in Model(other).classes
                                     if (one, two) in pairs])
            self.assertEqual({one for one, _ in pairs}, set(met))
            self.assertEqual({two for _, two in pairs}, set(self.met(other)))
            for _ in range(8):
                given = [fraction(item) for item in random_given(rng, text)]
                self.assertIn((told_at(text, given), told_at(other, given)), pairs)
            many += len(pairs)
        self.assertGreater(many, 200)

    def with_switches(self, many, features=X):
        return Model(features + "rules r\n" + "if no " + " , ".join(["0"] * many) + "\nelse yes")

    def test_the_order_of_errors(self):
        number = Model(X + "highest h " + " , ".join(["0"] * 41))
        check_raised(self, Unlike, {"what": "kind"}, classes_met, number)
        self.assertEqual(len(classes_met(self.with_switches(40))), 1)
        full, other = self.with_switches(40), self.with_switches(40, UNIT)
        check_raised(self, Unlike, {"what": "features"}, classes_together, full, other)
        check_raised(self, Unlike, {"what": "features"}, classes_together, number, other)
        for pair in ((full, number), (number, full), (number, number)):
            check_raised(self, Unlike, {"what": "kind"}, classes_together, *pair)
        check_raised(self, TooLarge, {"what": "switches", "many": 41, "limit": 40}, classes_together,
                     self.with_switches(21), self.with_switches(20))
        self.assertEqual(len(classes_together(self.with_switches(20), self.with_switches(20))), 1)


if __name__ == "__main__":
    unittest.main()
