import random
import unittest
from fractions import Fraction

from checking import NO_NUMBERS, check_raised, check_ratio, check_tuple_of_ratios, fraction, fractions, numbers, ratio
from hingeworks.errors import BadGiven, Unlike
from hingeworks.models import Model
from hingeworks.ratios import Ratio
from hingeworks.slopes import Jump, rule_slopes, way_slope
from hingeworks.unfolding import unfolded
from modeltexts import random_input, random_text, some_texts
from reference import Text

SQUARE = "fraction x from 0 to 1\nyesno u\nfraction y from 0 to 1\n"
HALF = Fraction(1, 2)
STEP = "fraction x\ntree t\nask 0 x 1\ntell 1 x 2\ntell 5 x 3"


def ratios(*items):
    return tuple(ratio(item) for item in items)


class SlopesTest(unittest.TestCase):
    def slopes(self, text, *given):
        model = Model(text)
        found = rule_slopes(model, ratios(*given))
        check_tuple_of_ratios(self, found, len(model.features.fractions))
        return fractions(found)

    def along(self, text, given, way):
        """The slope, or the pair of the value and the limit of a jump."""
        given, way = ratios(*given), ratios(*way)
        found = way_slope(Model(text), given, way)
        if not isinstance(found, Jump):
            check_ratio(self, found)
            return fraction(found)
        self.assertIs(type(found), Jump)
        for kept, told in ((found.given, given), (found.way, way)):
            check_tuple_of_ratios(self, kept, len(told))
            self.assertEqual(kept, told)
        check_ratio(self, found.value)
        check_ratio(self, found.limit)
        self.assertNotEqual(found.value, found.limit)
        return fraction(found.value), fraction(found.limit)

    def test_rule_slopes(self):
        zig = "fraction x\nhinge a 0 x 1\nhinge b 0 x -1\nsum f 0 a 1 b -1"
        self.assertEqual(self.slopes(zig, 0), (0,))
        self.assertEqual(self.slopes(zig, 1), (1,))
        self.assertEqual(self.slopes(zig, Fraction(-1, 10 ** 30)), (1,))
        self.assertEqual(self.slopes(SQUARE + "sum f 1 x 2 u 3 y -1/2", 0, 1, 1), (2, Fraction(-1, 2)))
        self.assertEqual(self.slopes(SQUARE + "hinge f -1 x 1 u 1", 1, 0, 1), (0, 0))
        self.assertEqual(self.slopes(SQUARE + "hinge f -1 x 1 u 1", 1, 1, 1), (1, 0))
        self.assertEqual(self.slopes("yesno u\nsum f 0 u 5", 1), ())
        self.assertEqual(self.slopes("fraction x\nleaky f 1/2 0 x 3", 0), (Fraction(3, 2),))
        self.assertEqual(self.slopes("fraction x\nsum f 1\nhinge g 0 x 1 f 1", 0), (1,))

    def test_slopes_of_the_leaf(self):
        """Also on thin leaves, and at an inner point along any way."""
        rng = random.Random(51)
        inner = 0
        for text in some_texts(rng, 200, 4):
            model = Model(text)
            if model.tells == "class":
                continue
            for leaf in unfolded(model).leaves:
                settings, point = list(leaf.settings), list(fractions(leaf.point))
                given = [(settings if name in model.features.yesnos else point).pop(0) for name in model.features.names]
                slopes = self.slopes(text, *given)
                self.assertEqual(slopes, numbers(leaf.told[0])[1:])
                if leaf.is_full:
                    inner += 1
                    way = [Fraction(rng.randint(-5, 5), 3) for _ in slopes]
                    self.assertEqual(self.along(text, given, way),
                                     sum(slope * step for slope, step in zip(slopes, way)))
        self.assertGreater(inner, 100)

    def test_ways_at_a_bend(self):
        bend = "fraction x\nhinge f 0 x 2"
        self.assertEqual(self.along(bend, [0], [1]), 2)
        self.assertEqual(self.along(bend, [0], [3]), 6)
        self.assertEqual(self.along(bend, [0], [-1]), 0)
        self.assertEqual(self.along(bend, [1], [-1]), -2)
        self.assertEqual(self.along(bend, [0], [0]), 0)
        self.assertEqual(self.along(bend, [-1], [1]), 0)
        zig = "fraction x\nhinge a 0 x 1\nhinge b 0 x -1\nsum f 0 a 1 b -1"
        self.assertEqual((self.along(zig, [0], [1]), self.along(zig, [0], [-1])), (1, -1))

    def test_switches_under_the_earlier_answers(self):
        # Along the way the first hinge is on, so the second one has the plane x, not 0.
        text = "fraction x\nhinge a 0 x 1\nhinge b 0 a 1\nsum f 0 b 7"
        self.assertEqual(self.along(text, [0], [1]), 7)
        self.assertEqual(self.along(text, [0], [-1]), 0)

    def test_jumps(self):
        self.assertEqual(self.along(STEP, [0], [1]), (1, 5))
        self.assertEqual(self.along(STEP, [0], [2]), (1, 5))
        self.assertEqual(self.along(STEP, [0], [-1]), -2)
        self.assertEqual(self.along(STEP, [0], [0]), 0)
        self.assertEqual(self.along(STEP, [Fraction(1, 10 ** 9)], [-1]), -3)
        # 7 where x is 0, elsewhere 0: a jump to either side.
        dot = "fraction x\ntree t\nask 0 x 1\nask 0 x -1\ntell 7\ntell 0\ntell 0"
        self.assertEqual(self.along(dot, [0], [1]), (7, 0))
        self.assertEqual(self.along(dot, [0], [-1]), (7, 0))
        gate = "fraction x\nfraction y\nsign s no yes 0 x 1 y -1\nsum f 0\nsum g 1 x 1\ngate k s no f yes g"
        self.assertEqual(self.along(gate, [2, 2], [1, 0]), (0, 3))
        self.assertEqual(self.along(gate, [2, 2], [0, 1]), 0)
        self.assertEqual(self.along(gate, [2, 2], [1, 1]), 0)
        self.assertEqual(self.along(gate, [2, 1], [1, 1]), 1)
        # A tree whose branches meet has no jump.
        self.assertEqual(self.along("fraction x\ntree t\nask 0 x 1\ntell 0\ntell 0 x 4", [0], [1]), 4)

    def test_a_jump_keeps_ratios(self):
        found = way_slope(Model("yesno u\n" + STEP), (1, 0), (1,))
        self.assertIs(type(found), Jump)
        check_tuple_of_ratios(self, found.given, 2)
        check_tuple_of_ratios(self, found.way, 1)
        self.assertEqual((found.given, found.way, found.value, found.limit), ((1, 0), (1,), 1, 5))

    def test_longer_ways(self):
        rng = random.Random(52)
        jumps, out = 0, 0
        for turn in range(1200):
            text = random_text(rng, 1 + turn % 2, 1, ["sign", "tree", "gate", "tree", "sum"], 0.3)
            apart = Text(text)
            if Model(text).tells == "class":
                continue
            # Small numbers, at which many switches are 0.
            given = [at if name in apart.yesnos else self.within(apart, name, rng.choice([-1, 0, HALF, 1]))
                     for name, at in zip(apart.names, random_input(rng, apart))]
            way = [rng.randint(-2, 2) for _ in apart.fractions]
            try:
                one = self.along(text, given, way)
            except BadGiven:
                self.assertTrue(self.leads_out(apart, given, way))
                out += 1
                continue
            self.assertFalse(self.leads_out(apart, given, way))
            self.check_nearby(apart, given, way, one)
            jumps += isinstance(one, tuple)
            for factor in (2, Fraction(1, 3)):
                other = self.along(text, given, [step * factor for step in way])
                self.assertEqual(other, one if isinstance(one, tuple) else one * factor)
        self.assertGreater(min(jumps, out), 10)

    def within(self, apart, name, number):
        low, high = apart.end(name, "from"), apart.end(name, "to")
        number = number if low is None else max(number, low)
        return Fraction(number if high is None else min(number, high))

    def leads_out(self, apart, given, way):
        told = dict(zip(apart.names, given))
        for name, step in zip(apart.fractions, way):
            if step != 0 and told[name] == apart.end(name, "to" if step > 0 else "from"):
                return True
        return False

    def check_nearby(self, apart, given, way, found):
        """The slope or the limit as the reference tells it at two points near enough."""
        steps = dict(zip(apart.fractions, way))
        worths = []
        for short in (Fraction(1, 10 ** 6), Fraction(1, 10 ** 7), 0):
            worths.append(apart.work({name: at + short * steps.get(name, 0) for name,
                                      at in zip(apart.names, given)})[0])
        slope = (worths[0] - worths[1]) / (Fraction(1, 10 ** 6) - Fraction(1, 10 ** 7))
        limit = worths[1] - slope * Fraction(1, 10 ** 7)
        self.assertEqual(found, slope if limit == worths[2] else (worths[2], limit))

    def test_ways_out_of_the_ranges(self):
        text = SQUARE + "sum f 0 x 2 y 3"
        for given, way, slope in [
            ((0, 1, 0), (1, 0), 2), ((0, 1, 0), (0, 1), 3), ((0, 0, 0), (1, 1), 5), ((1, 0, 1), (-1, -1), -5),
            ((1, 0, 0), (0, 2), 6),
            ((Fraction(1, 2), 0, 1), (1, 0), 2), ((Fraction(1, 2), 0, 1), (-1, 0), -2), ((0, 0, 0), (0, 0), 0),
            ((1, 1, 1), (0, 0), 0),
        ]:
            self.assertEqual(self.along(text, given, way), slope)
        for given, way in [((0, 1, 0), (-1, 0)), ((0, 1, 0), (1, -1)), ((1, 1, 1), (1, -1)),
                           ((1, 0, Fraction(1, 2)), (Fraction(1, 10 ** 9), 0)),
                           ((Fraction(1, 2), 0, 1), (0, 1)), ((0, 0, 1), (-1, 1))]:
            check_raised(self, BadGiven, {"what": "way"}, way_slope, Model(text), ratios(*given), ratios(*way))
        half = Model("fraction x from 0\nfraction y to 0\nsum f 0 x 1 y 1")
        self.assertEqual(way_slope(half, (0, 0), (5, -2)), 3)
        for way in ((-1, 0), (0, 1), (1, 1)):
            check_raised(self, BadGiven, {"what": "way"}, way_slope, half, (0, 0), way)

    def test_models_without_fractions(self):
        self.assertEqual(self.along("yesno u\nhinge f 0 u 5", [1], []), 0)
        check_raised(self, BadGiven, {"what": "way"}, way_slope, Model("yesno u\nhinge f 0 u 5"), (1,), (1,))

    def test_values_that_are_no_ways(self):
        model = Model(SQUARE + "sum f 0 x 2 y 3")
        given = (Ratio(1, 2), 1, Ratio(1, 2))
        for way in ((), (1,), (1, 1, 1), [1, 1], (True, 1), (1, False), ("1", 1), (None, 0), None, 1, "11", {},
                    (1.0, 0), *NO_NUMBERS):
            check_raised(self, BadGiven, {"what": "way"}, way_slope, model, given, way)

    def test_the_order_of_errors(self):
        classes = Model("fraction x from 0 to 1\nsign s no yes 0 x 1")
        model = Model("fraction x from 0 to 1\nsum f 0 x 1")
        for given in ((0,), (5,), None):
            check_raised(self, Unlike, {"what": "kind"}, rule_slopes, classes, given)
            for way in ((1,), (-1,), None):
                check_raised(self, Unlike, {"what": "kind"}, way_slope, classes, given, way)
        for given in ((5,), (), [0], None, (True,), "0"):
            check_raised(self, BadGiven, {"what": "given"}, rule_slopes, model, given)
            for way in ((1,), (-1,), None):
                check_raised(self, BadGiven, {"what": "given"}, way_slope, model, given, way)


if __name__ == "__main__":
    unittest.main()
