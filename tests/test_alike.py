import random
import unittest

from checking import check_raised, check_ratio, check_weights, fraction, mixture, numbers
from hingeworks.alike import Apart, alike_papers, apart
from hingeworks.errors import TooLarge, Unlike
from hingeworks.models import Model
from hingeworks.ratios import Ratio
from hingeworks.unfolding import unfolded
from judging import check_given, random_given, told_at
from modeltexts import random_text, some_texts
from reference import Text

X = "fraction x\n"
UNIT = "fraction x from 0 to 1\n"
PLANE = "fraction x from 0 to 2\nyesno u\nfraction y from -1 to 1\n"


class AlikeTest(unittest.TestCase):
    def check(self, one_text, other_text):
        """All that [40] says; returns whether they are alike."""
        one, other = Model(one_text), Model(other_text)
        found, papers = apart(one, other), alike_papers(one, other)
        if found is None:
            self.check_papers(papers, one, other)
            return True
        self.assertIsNone(papers)
        self.assertIs(type(found), Apart)
        given = check_given(self, one_text, found.given)
        self.assertIs(type(found.told), tuple)
        self.assertEqual(len(found.told), 2)
        for told, text in zip(found.told, (one_text, other_text)):
            expected = told_at(text, given)
            if isinstance(expected, str):
                self.assertEqual(told, expected)
            else:
                check_ratio(self, told, expected)
        self.assertNotEqual(found.told[0], found.told[1])
        return False

    def check_papers(self, papers, one, other):
        self.assertIs(type(papers), tuple)
        leaves = unfolded(one, other).leaves
        if one.tells == "class":
            self.assertEqual(papers, ())
            self.assertEqual([leaf.told[0] for leaf in leaves], [leaf.told[1] for leaf in leaves])
            return
        self.assertEqual(len(papers), len(leaves))
        for pair, leaf in zip(papers, leaves):
            self.assertIs(type(pair), tuple)
            self.assertEqual(len(pair), 2)
            gap = [here - there for here, there in zip(numbers(leaf.told[0]), numbers(leaf.told[1]))]
            for sign, part in zip((1, -1), pair):
                self.assertIs(type(part), tuple)
                weights, bottom = part
                check_weights(self, weights, leaf.place)
                self.assertIs(type(bottom), int)
                self.assertGreater(bottom, 0)
                self.assertEqual(mixture(weights, leaf.place), tuple(sign * bottom * item for item in gap))

    def test_models_that_are_written_otherwise(self):
        for one, other in [
            ("hinge h 0 x 1", "tree t\nask 0 x 1\ntell 0\ntell 0 x 1"),
            ("hinge h 0 x 1", "highest h 0 , 0 x 1"),
            ("hinge h 0 x 1", "highest h 0 x 1 , 0"),
            ("hinge h 0 x 1", "hinge a 0 x 1/3\nsum f 0 a 3"),
            ("hinge h 0 x 1", "hinge a 0 x -1\nsum f 0 x 1 a 1"),
            ("sum f 0 x 1", "hinge a 0 x 1\nhinge b 0 x -1\nsum f 0 a 1 b -1"),
            ("leaky f -1 0 x 1", "hinge a 0 x 1\nhinge b 0 x -1\nsum f 0 a 1 b 1"),
            ("clip c 0 1 0 x 2", "hinge a 0 x 2\nhinge b -1 x 2\nsum f 0 a 1 b -1"),
            ("sum f 5", "sum g 5"),
            ("sign s no yes 0 x 1", "sign s yes no 0 x -1\nsign t no yes 0 x 1"),
            ("sign s no yes 0 x 1", "rules r\nif yes 0 x 2\nif never -1\nelse no"),
            ("sign s no yes 0 x 1", "choose c no 0 , yes 0 x 1 , other -1 , more 0"),
        ]:
            for features in (X, UNIT, "fraction x from -1 to 1/2\nyesno u\n"):
                self.assertTrue(self.check(features + one, features + other))
                self.assertTrue(self.check(features + other, features + one))
                self.assertTrue(self.check(features + one, features + one))

    def test_models_that_differ_at_one_number_alone(self):
        dot = "tree t\nask 0 x 1\nask 0 x -1\ntell 7\ntell 0\ntell 0"
        self.assertFalse(self.check(X + dot, X + "sum f 0"))
        found = apart(Model(X + dot), Model(X + "sum f 0"))
        self.assertEqual((found.given, found.told), ((0,), (7, 0)))
        self.assertFalse(self.check(X + "sum f 0", X + dot))
        self.assertFalse(self.check(UNIT + dot, UNIT + "sum f 0"))
        self.assertTrue(self.check("fraction x from 1 to 2\n" + dot, "fraction x from 1 to 2\nsum f 0"))
        dot = "rules r\nif low 0 x -1\nif high 0 x 1\nelse dot"
        self.assertFalse(self.check(X + dot, X + "sign s low high 0 x 1"))
        self.assertFalse(self.check(UNIT + "sign s no yes 0 x 1", UNIT + "rules r\nelse yes"))
        self.assertTrue(self.check("fraction x from 1 to 2\nsign s no yes 0 x 1", "fraction x from 1 to 2\n"
                                   "rules r\nelse yes"))
        self.assertFalse(self.check("fraction x to 1\nsign s no yes -1 x 1", "fraction x to 1\nsign s no yes 1 x -1"))

    def test_models_that_differ_above_a_number_or_out_of_the_ranges(self):
        for plane in ("-1/2 x 1", "-1 x 1", "-2 x 1"):
            one, other = f"hinge h {plane}", "sum f 0"
            self.assertFalse(self.check(X + one, X + other))
            self.assertEqual(self.check(UNIT + one, UNIT + other), plane != "-1/2 x 1")
        self.assertTrue(self.check(UNIT + "hinge h 0 x 1", UNIT + "sum f 0 x 1"))
        self.assertFalse(self.check(X + "hinge h 0 x 1", X + "sum f 0 x 1"))

    def test_planes_that_differ_and_are_equal_on_a_thin_leaf(self):
        one = "tree t\nask 0 x 1\nask 0 x -1\ntell 0 x 1\ntell 5\ntell 6"
        other = "tree t\nask 0 x 1\nask 0 x -1\ntell 0 x 2\ntell 5\ntell 6"
        self.assertTrue(self.check(X + one, X + other))
        self.assertTrue(self.check(PLANE + one, PLANE + other))
        self.assertFalse(self.check(X + one, X + other.replace("tell 0 x 2", "tell 1 x 2")))
        rim = "tree t\nask 0 x 1\nask 0 y 1\ntell 3 x {} y 1\ntell 3 x {} y 1\ntell 4"
        self.assertTrue(self.check(PLANE + rim.format(1, 2), PLANE + rim.format(-7, 9)))
        self.assertFalse(self.check(PLANE + rim.format(1, 2).replace("3 x 2", "4 x 2"), PLANE + rim.format(-7, 9)))

    def test_yesno_features(self):
        self.assertTrue(self.check("yesno u\nhinge f 0 u 5", "yesno u\nsum f 0 u 5"))
        self.assertFalse(self.check("yesno u\nhinge f -1 u 5", "yesno u\nsum f -1 u 5"))
        self.assertTrue(self.check("yesno u\nsign s no yes 0 u 1", "yesno u\nsign s no yes -1/2 u 1"))
        self.assertFalse(self.check("yesno u\nsign s no yes 0 u 1", "yesno u\nsign s no yes -1 u 1"))

    def test_classes_by_name(self):
        one = Model(X + "sign s no yes 0 x 1")
        self.assertIsNone(apart(one, Model(X + "sign s yes no 0 x -1\nrules r\nif yes 0 x 1\nif other -1\nelse no")))
        found = apart(one, Model(X + "sign s no maybe 0 x 1"))
        self.assertEqual(found.told, ("yes", "maybe"))
        self.assertTrue(found.given[0].top > 0)

    def test_many_models(self):
        rng = random.Random(101)
        alike, unlike = 0, 0
        for text in some_texts(rng, 200, 3):
            told = Model(text).tells
            other = random_text(rng, 0, 0, ["sign"] if told == "class" else ["sum"], 0, Text(text))
            last = "sign zzz no yes 1/9" if told == "class" else "sum zzz 1/9"
            self.assertTrue(self.check(text, text))
            for one in (other, text + "\n" + last):
                if self.check(text, one):
                    alike += 1
                    for _ in range(5):
                        given = [fraction(item) for item in random_given(rng, text)]
                        self.assertEqual(told_at(text, given), told_at(one, given))
                else:
                    unlike += 1
        self.assertGreater(unlike, 100)
        self.assertGreater(alike, 3)

    def test_likeness_of_rewritten_models(self):
        """Hinges, turned round, are hinges plus planes; a tree tells the same."""
        rng = random.Random(102)
        for _ in range(60):
            rows, turned, parts = [], [], []
            for name in "abc":
                x, y, u, fixed = [rng.randint(-3, 3) or 1 for _ in range(4)]
                rows.append(f"hinge {name} {fixed} x {x} u {u} y {y}")
                turned.append(f"hinge m{name} {-fixed} x {-x} u {-u} y {-y}")
                turned.append(f"sum {name} {fixed} x {x} u {u} y {y} m{name} 1")
                parts.append(f"{name} {rng.choice([-2, -1, 1, 3])}")
            last = "sum f 0 " + " ".join(parts)
            one, other = PLANE + "\n".join(rows + [last]), PLANE + "\n".join(turned + [last])
            self.assertTrue(self.check(one, other))
            self.assertFalse(self.check(one, other.replace("sum f 0", "sum f 1/100")))

    def with_switches(self, many, features=X, last=""):
        return Model(features + "highest h " + " , ".join(["0"] * (many + 1)) + last)

    def test_the_order_of_errors(self):
        sign = "\nsign s no yes 0"
        for call in (apart, alike_papers):
            check_raised(self, Unlike, {"what": "features"}, call, self.with_switches(40),
                         self.with_switches(39, UNIT, sign))
            for other in ("fraction y", "fraction x from 0", "fraction x by 2", "yesno x", "fraction x\nyesno u"):
                check_raised(self, Unlike, {"what": "features"}, call, Model(X + "sum f 0"), Model(other + "\nsum f 0"))
            check_raised(self, Unlike, {"what": "kind"}, call, self.with_switches(40), self.with_switches(39, X, sign))
            check_raised(self, Unlike, {"what": "kind"}, call, self.with_switches(39, X, sign), self.with_switches(40))
            fields = {"what": "switches", "many": 41, "limit": 40}
            check_raised(self, TooLarge, fields, call, self.with_switches(20), self.with_switches(21))
            check_raised(self, TooLarge, fields, call, self.with_switches(20, X, sign), self.with_switches(19, X, sign))
        self.assertIsNone(apart(self.with_switches(20), self.with_switches(20)))
        self.assertEqual(len(alike_papers(self.with_switches(20), self.with_switches(20))), 1)

    def test_results_are_ratios(self):
        found = apart(Model("yesno u\nsum f 1"), Model("yesno u\nsum f 2"))
        self.assertEqual([type(item) for item in (*found.given, *found.told)], [Ratio] * 3)


if __name__ == "__main__":
    unittest.main()
