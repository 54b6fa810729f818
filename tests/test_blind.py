import random
import unittest
from fractions import Fraction

from checking import NO_NUMBERS, check_raised, fraction, fractions
from hingeworks.blind import blind_pair, depends_on
from hingeworks.errors import NoFeature, TooLarge
from hingeworks.models import Model
from hingeworks.unfolding import unfolded
from judging import check_differ_only_in, random_given, told_at
from modeltexts import random_input, some_texts
from reference import Text

X = "fraction x\n"
UNIT = "fraction x from 0 to 1\n"
MIXED = "fraction x from 0 to 1\nyesno u\nfraction y\nyesno v\n"


class BlindTest(unittest.TestCase):
    def depends(self, text):
        """The names of the features that the model depends on, each with a pair that shows it."""
        model = Model(text)
        names = []
        for name in model.features.names:
            found = blind_pair(model, name)
            if found is not None:
                names.append(name)
                self.assertIs(type(found), tuple)
                one, other = found
                check_differ_only_in(self, text, name, one, other)
                self.assertNotEqual(told_at(text, fractions(one)), told_at(text, fractions(other)))
        self.assertEqual(depends_on(model), tuple(names))
        return names

    def test_features_that_no_line_names(self):
        self.assertEqual(self.depends(MIXED + "sum f 3"), [])
        self.assertEqual(self.depends(MIXED + "sum f 3 y 1"), ["y"])
        self.assertEqual(self.depends(MIXED + "sign s no yes 0 y 1 v -1"), ["y", "v"])
        self.assertEqual(self.depends(MIXED + "rules r\nelse no"), [])

    def test_features_that_lines_name_and_that_do_not_matter(self):
        for lines, names in [
            ("sum a 0 x 1\nsum f 2", []),
            ("sum a 0 x 1 y 2\nsum f 0 x -1 a 1", ["y"]),
            ("hinge a 0 x 1\nsum f 0 x -1 a 1", []),
            ("hinge a 1 x 1\nhinge b -1 x -1\nsum f 0 x -1 a 1 b 1", []),
            ("hinge a -1 x 1\nsum f 0 y 1 a 3", ["y"]),
            ("sign s no yes -1 x 1", []),
            ("sign s no yes 0 x 1", ["x"]),
            ("sign s no yes 1/2 u 1", []),
            ("sign s no yes -1/2 u 1", ["u"]),
            ("hinge a 0 u 1\nsum f 0 u -1 a 1", []),
            ("hinge a 0 u 1 v -1\nsum f 0 a 1", ["u", "v"]),
            ("hinge a -1 u 1 v 1\nsum f 0 a 1", ["u", "v"]),
            ("hinge a -2 u 1 v 1\nsum f 0 a 1", []),
            ("hinge a -2 x 1 u 1 v 1\nsum f 0 a 1", ["x", "u", "v"]),
            ("tree t\nask 0 x 1\nclass a\nask 0 y 1\nclass a\nclass a", []),
            ("tree t\nask 0 x 1\nclass a\nask 0 y 1\nclass a\nclass b", ["x", "y"]),
        ]:
            self.assertEqual(self.depends(MIXED + lines), names, lines)

    def test_a_difference_at_one_number_alone(self):
        dot = "tree t\nask -1/2 x 1\nask 1/2 x -1\ntell 7\ntell 0\ntell 0"
        self.assertEqual(self.depends(UNIT + dot), ["x"])
        one, other = blind_pair(Model(UNIT + dot), "x")
        self.assertIn(Fraction(1, 2), (fraction(one[0]), fraction(other[0])))
        for number in ("0", "1"):
            at = UNIT + f"tree t\nask -{number} x 1\nask {number} x -1\nclass a\nclass b\nclass b".replace("-0", "0")
            self.assertEqual(self.depends(at), ["x"])

    def test_out_of_the_ranges_alone(self):
        for features, names in [(UNIT, []), (X, ["x"]), ("fraction x to 1\n", []), ("fraction x from 1\n", ["x"])]:
            self.assertEqual(self.depends(features + "hinge h -1 x 1"), names)
            self.assertEqual(self.depends(features + "sign s no yes -1 x 1"), names)
        for features, names in [(UNIT, ["x"]), (X, ["x"]), ("fraction x to 0\n", []), ("fraction x from 2\n", ["x"])]:
            self.assertEqual(self.depends(features + "hinge h 0 x 1"), names)

    def test_without_fractions(self):
        features = "yesno u\nyesno v\nyesno w\n"
        self.assertEqual(self.depends(features + "sum f 1 u 2 w -1"), ["u", "w"])
        self.assertEqual(self.depends(features + "sign s no yes -3/2 u 1 v 1"), ["u", "v"])
        self.assertEqual(self.depends(features + "sign s no yes -5 u 1 v 1"), [])

    def test_many_models(self):
        rng = random.Random(131)
        blind, seeing, hidden = 0, 0, 0
        for text in some_texts(rng, 250, 3):
            apart = Text(text)
            if Model(text).switches > 8:
                continue
            found = self.depends(text)
            seeing += len(found)
            named = {piece for row in apart.blocks for line in row for piece in line}
            for name in apart.names:
                if name not in found:
                    blind += 1
                    hidden += name in named
                    self.check_blind(rng, text, name)
        self.assertGreater(min(blind, seeing, hidden), 50)

    def check_blind(self, rng, text, name):
        """Inputs that differ only in the feature have equal results."""
        apart = Text(text)
        place = apart.names.index(name)
        for _ in range(5):
            one, other = random_input(rng, apart), random_input(rng, apart)
            mixed = [there if at == place else here for at, (here, there) in enumerate(zip(one, other))]
            self.assertEqual(told_at(text, one), told_at(text, mixed))

    def test_names_that_are_no_features(self):
        model = Model(MIXED + "hinge h 0 x 1")
        for name in ("h", "z", "", "X", "x ", "fraction", *NO_NUMBERS, ("x",), ["x"]):
            check_raised(self, NoFeature, {"name": name}, blind_pair, model, name)

    def with_switches(self, many, features=X):
        return Model(features + "highest h " + " , ".join(["0"] * (many + 1)))

    def test_switches_count_twice(self):
        for features in (X, "yesno x\n"):
            for many in (21, 40):
                fields = {"what": "switches", "many": 2 * many, "limit": 40}
                check_raised(self, TooLarge, fields, blind_pair, self.with_switches(many, features), "x")
                check_raised(self, TooLarge, fields, depends_on, self.with_switches(many, features))
                check_raised(self, NoFeature, {"name": "h"}, blind_pair, self.with_switches(many, features), "h")
            self.assertIsNone(blind_pair(self.with_switches(20, features), "x"))
            self.assertEqual(depends_on(self.with_switches(20, features)), ())

    def test_asked_again(self):
        model = Model(MIXED + "hinge a 0 x 1 u -1\nsum f 0 y 2 a 1")
        given = random_given(random.Random(1), model.text)
        before = len(unfolded(model).leaves), told_at(model.text, fractions(given))
        self.assertEqual(blind_pair(model, "x"), blind_pair(model, "x"))
        self.assertEqual(blind_pair(model, "u"), blind_pair(model, "u"))
        self.assertEqual((len(unfolded(model).leaves), told_at(model.text, fractions(given))), before)


if __name__ == "__main__":
    unittest.main()
