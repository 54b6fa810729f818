import random
import unittest
from fractions import Fraction

from checking import NO_NUMBERS, check_raised, check_ratio, fraction, fractions, is_inner, numbers
from hingeworks.continuous import jump_of
from hingeworks.errors import NoFeature, NotContinuous, TooLarge, Unlike
from hingeworks.models import Model
from hingeworks.ratios import Ratio
from hingeworks.rising import Steep, falling_pair, steepest
from hingeworks.unfolding import unfolded
from judging import check_differ_only_in, check_given, random_given, told_at
from modeltexts import random_text, some_texts
from reference import Text

X = "fraction x\n"
UNIT = "fraction x from 0 to 1\n"
MIXED = "fraction x from 0 to 1 by 2\nyesno u\nfraction y by 1/3\n"
STEP = "tree t\nask 0 x 1\ntell 0\ntell 1"


class RisingTest(unittest.TestCase):
    def falls(self, text, name):
        """Whether the model falls in the feature, after the pair is evaluated."""
        found = falling_pair(Model(text), name)
        if found is None:
            return False
        self.assertIs(type(found), tuple)
        one, other = found
        check_differ_only_in(self, text, name, one, other)
        place = Text(text).names.index(name)
        self.assertLess(fraction(one[place]), fraction(other[place]))
        self.assertGreater(told_at(text, fractions(one)), told_at(text, fractions(other)))
        return True

    def test_fractions(self):
        for lines, expected in [
            ("sum f 0 x 1", False), ("sum f 0 x -1", True), ("sum f 3", False), ("hinge f 0 x 1", False),
            ("hinge f 0 x -1", True), ("leaky f -1 0 x 1", True), ("leaky f 1/2 0 x 1", False),
            ("clip f 0 1 0 x -3", True), ("highest f 0 , 1 x 1 , 0 x 2", False), ("highest f 0 x -1 , 0 x 1", True),
            ("hinge a 0 x 1\nhinge b -1 x 2\nsum f 0 a 1 b -1", True),
            ("hinge a 0 x 1\nhinge b -1 x 2\nsum f 0 a 2 b -1", False),
        ]:
            self.assertEqual(self.falls(X + lines, "x"), expected, lines)

    def test_the_ranges_count(self):
        for features, expected in [(X, True), (UNIT, False), ("fraction x to 0\n", True), ("fraction x from -1\n", True),
                                   ("fraction x from -1/1000 to 5\n", True), ("fraction x from 0\n", False)]:
            self.assertEqual(self.falls(features + "hinge a 0 x -1\nsum f 0 x 1/2 a 1", "x"), expected)
            self.assertEqual(self.falls(features + "leaky f -1 0 x 1", "x"), expected)

    def test_yesno_features(self):
        for lines, u, v in [
            ("sum f 0 u 1 v -1", False, True), ("sum f 0", False, False), ("sum f 0 x 1 u 1/9", False, False),
            ("hinge f 0 x 1 u -1", True, False), ("hinge f -1/2 x 1 u -1 v 2", True, False),
            ("hinge f -2 x 1 u -1", False, False), ("tree t\nask 0 u 1\ntell 5\nask 0 v 1\ntell 4\ntell 6", True, False),
            # A jump does not matter here.
            ("tree t\nask -1/2 x 1\ntell 0 u -1\ntell 7", True, False),
            ("tree t\nask -1/2 x 1\nask 1/2 x -1\ntell 0 u -1\ntell 7\ntell 8", True, False),
        ]:
            text = "fraction x from 0 to 1\nyesno u\nyesno v\n" + lines
            self.assertEqual((self.falls(text, "u"), self.falls(text, "v")), (u, v), text)
        text = "yesno v\nyesno u\nfraction x from 0 to 1\nsum f 0 v 1 u -1"
        self.assertEqual((self.falls(text, "u"), self.falls(text, "v")), (True, False))

    def test_blind_features_are_rising(self):
        for name in ("x", "u", "y"):
            self.assertFalse(self.falls(MIXED + "sum f 5", name))
            self.assertFalse(self.falls(MIXED + "hinge a 0 y 1\nsum f 0 y -1 a 1\nhinge g 0", name))
        self.assertFalse(self.falls(MIXED + "sum f 0 u -3 y -1", "x"))
        self.assertTrue(self.falls(MIXED + "sum f 0 u -3 y -1", "u"))
        self.assertTrue(self.falls(MIXED + "sum f 0 u -3 y -1", "y"))

    def test_many_models(self):
        rng = random.Random(151)
        falling, rising = 0, 0
        for text in some_texts(rng, 250, 3):
            model = Model(text)
            if model.tells == "class" or model.switches > 12:
                continue
            for name in model.features.names:
                if name in model.features.fractions and jump_of(model) is not None:
                    check_raised(self, NotContinuous, {}, falling_pair, model, name)
                elif self.falls(text, name):
                    falling += 1
                else:
                    rising += 1
                    self.check_rising(rng, text, name)
        self.assertGreater(min(falling, rising), 30)

    def check_rising(self, rng, text, name):
        place = Text(text).names.index(name)
        for _ in range(6):
            one, other = [list(fractions(random_given(rng, text))) for _ in range(2)]
            low, high = sorted([one[place], other[place]])
            one[place] = low
            moved = [high if at == place else item for at, item in enumerate(one)]
            self.assertLessEqual(told_at(text, one), told_at(text, moved))

    def with_switches(self, many, features=X, last=""):
        return Model(features + "highest h " + " , ".join(["0"] * (many + 1)) + last)

    def test_the_order_of_errors(self):
        mixed = "fraction x\nyesno u\n"
        told = self.with_switches(39, mixed, "\nsign s no yes 0")
        jump = Model(mixed + STEP)
        for name in ("x", "u", "h", "z", None, ["x"]):
            check_raised(self, Unlike, {"what": "kind"}, falling_pair, told, name)
        for name in ("h", "t", "z", "", *NO_NUMBERS, ["x"], ("x",)):
            for model in (self.with_switches(40, mixed), jump):
                check_raised(self, NoFeature, {"name": name}, falling_pair, model, name)
        check_raised(self, TooLarge, {"what": "switches", "many": 80, "limit": 40}, falling_pair,
                     self.with_switches(40, mixed), "u")
        check_raised(self, TooLarge, {"what": "switches", "many": 42, "limit": 40}, falling_pair,
                     self.with_switches(21, mixed), "u")
        self.assertIsNone(falling_pair(self.with_switches(20, mixed), "u"))
        # A fraction is unfolded once, and a yes-or-no feature asks for no continuity.
        self.assertIsNone(falling_pair(self.with_switches(40, mixed), "x"))
        check_raised(self, NotContinuous, {}, falling_pair, jump, "x")
        self.assertIsNone(falling_pair(jump, "u"))
        check_raised(self, NotContinuous, {}, falling_pair, Model(X + "tree t\nask 0 x 1\ntell 0\ntell 1 x 1"), "x")
        blind = Model("fraction y\n" + X + STEP)
        check_raised(self, NotContinuous, {}, falling_pair, blind, "y")
        self.assertIsNone(falling_pair(Model("fraction x from 1\n" + STEP), "x"))


class SteepTest(unittest.TestCase):
    def steep(self, text, measure):
        """The steepness, after both inputs are evaluated."""
        model = Model(text)
        found = steepest(model, measure)
        self.assertIs(type(found), Steep)
        check_ratio(self, found.worth)
        worth = fraction(found.worth)
        if worth == 0:
            self.assertEqual((found.first, found.second), (None, None))
            return worth
        one, other = [check_given(self, text, given) for given in (found.first, found.second)]
        self.assertNotEqual(one, other)
        self.assertEqual(abs(told_at(text, one) - told_at(text, other)), worth * self.distance(text, one, other, measure))
        self.check_one_leaf(model, one, other)
        return worth

    def distance(self, text, one, other, measure):
        apart = Text(text)
        changes = []
        for name, here, there in zip(apart.names, one, other):
            if name in apart.yesnos:
                self.assertEqual(here, there)
            else:
                changes.append(abs(here - there) / (apart.end(name, "by") or 1))
        return max(changes) if measure == "greatest" else sum(changes)

    def check_one_leaf(self, model, one, other):
        apart = Text(model.text)
        found = []
        for given in (one, other):
            letters = dict(zip(apart.names, given))
            settings = tuple(letters[name] for name in apart.yesnos)
            found.append((settings, apart.work(letters)[1]))
        self.assertEqual(found[0], found[1])
        leaf = [leaf for leaf in unfolded(model).leaves if (leaf.settings, leaf.answers) == found[0]][0]
        self.assertTrue(leaf.is_full)
        self.assertTrue(is_inner(leaf.place, fractions(leaf.point)))

    def test_both_measures_and_units(self):
        for text, greatest, total in [
            (X + "sum f 0 x 3", 3, 3),
            (X + "sum f 0 x -3", 3, 3),
            ("fraction x by 5\nsum f 0 x 3", 15, 15),
            ("fraction x by 1/5\nsum f 0 x -3", Fraction(3, 5), Fraction(3, 5)),
            ("fraction x\nfraction y\nsum f 0 x 3 y -4", 7, 4),
            ("fraction x by 2\nfraction y\nsum f 0 x 3 y -4", 10, 6),
            ("fraction x by 1/6\nfraction y by 1/4\nsum f 0 x 3 y -4", Fraction(3, 2), 1),
            (MIXED + "sum f 0 x 1 u 100 y 3", 3, 2),
            (MIXED + "sum f 0 x 1 u 100 y -9", 5, 3),
            (X + "hinge f 0 x 2", 2, 2),
            (X + "leaky f -3 0 x 2", 6, 6),
            (UNIT + "leaky f -3 0 x 2", 2, 2),
            ("fraction x from -1/1000000 to 1\nleaky f -3 0 x 2", 6, 6),
            (X + "hinge a 0 x 1\nhinge b -1 x 1\nsum f 0 a 5 b -3", 5, 5),
        ]:
            self.assertEqual((self.steep(text, "greatest"), self.steep(text, "sum")), (greatest, total), text)

    def test_a_steepness_of_0(self):
        for text in (X + "sum f 5", "yesno u\nsum f 0 u 5", X + "yesno u\nsum f 0 u 3", UNIT + "hinge f -7 x 7",
                     X + "tree t\nask 0 x 1\ntell 4\ntell 4", X + "tree t\nask 0 x 1\nask 0 x -1\ntell 0 x 9\ntell 0\ntell 0"):
            for measure in ("greatest", "sum"):
                self.assertEqual(self.steep(text, measure), 0)

    def test_many_models(self):
        rng = random.Random(152)
        many, flat = 0, 0
        texts = list(some_texts(rng, 100, 3))
        texts += [random_text(rng, 1 + at % 3, at % 2, ["hinge", "leaky", "sum"], 0.5) for at in range(60)]
        for text in texts:
            model = Model(text)
            if model.tells == "class" or model.switches > 12:
                continue
            if jump_of(model) is not None:
                for measure in ("greatest", "sum"):
                    check_raised(self, NotContinuous, {}, steepest, model, measure)
                continue
            for measure in ("greatest", "sum"):
                worth = self.steep(text, measure)
                self.assertEqual(worth, self.fact(model, measure))
                many += worth > 0
                flat += worth == 0
                for _ in range(4):
                    one, other = [list(fractions(random_given(rng, text))) for _ in range(2)]
                    names = model.features.names
                    other = [here if name in model.features.yesnos else there
                             for name, here, there in zip(names, one, other)]
                    if model.features.fractions:
                        gap = abs(told_at(text, one) - told_at(text, other))
                        self.assertLessEqual(gap, worth * self.distance(text, one, other, measure))
        self.assertGreater(min(many, flat), 20)

    def fact(self, model, measure):
        apart = Text(model.text)
        best = Fraction(0)
        for leaf in unfolded(model).leaves:
            if leaf.is_full:
                slopes = numbers(leaf.told[0])[1:]
                parts = [abs(slope) * (apart.end(name, "by") or 1) for name, slope in zip(apart.fractions, slopes)]
                best = max([best, sum(parts) if measure == "greatest" else max(parts, default=0)])
        return best

    def test_the_order_of_errors(self):
        told = Model(X + "sign s no yes 0 x 1")
        jump = Model(X + STEP)
        for measure in ("greatest", "sum", "least", None, "", 1, ["sum"], ("sum",), Ratio(1), {}, "greatest "):
            check_raised(self, Unlike, {"what": "kind"}, steepest, told, measure)
            if measure in ("greatest", "sum"):
                check_raised(self, NotContinuous, {}, steepest, jump, measure)
            else:
                check_raised(self, Unlike, {"what": "measure"}, steepest, jump, measure)
                check_raised(self, Unlike, {"what": "measure"}, steepest, Model(X + "sum f 0 x 1"), measure)
        check_raised(self, NotContinuous, {}, steepest,
                     Model(X + "tree t\nask 0 x 1\nask 0 x -1\ntell 7\ntell 0\ntell 0"), "sum")


if __name__ == "__main__":
    unittest.main()
