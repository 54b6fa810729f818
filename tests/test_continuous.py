import random
import unittest
from fractions import Fraction

from checking import check_raised, check_ratio, check_tuple_of_ratios, fraction, fractions
from hingeworks.continuous import jump_of
from hingeworks.empties import point_of
from hingeworks.errors import Unlike
from hingeworks.models import Model
from hingeworks.places import Place
from hingeworks.slopes import Jump, way_slope
from hingeworks.unfolding import unfolded
from judging import check_given, told_at
from modeltexts import random_text, some_texts
from reference import Text

X = "fraction x\n"
UNIT = "fraction x from 0 to 1\n"
PLANE = "fraction x\nfraction y\n"
DOT = "tree t\nask 0 x 1\nask 0 x -1\ntell 7\ntell 0\ntell 0"


def step(number, low="0", high="1"):
    """A value that changes behind a number."""
    return f"tree t\nask {number} x 1\ntell {low}\ntell {high}"


def has_jump(leaves):
    """Whether the planes of two leaves differ at a point of one that lies in the closure of the other."""
    for one in leaves:
        closed = [(part, False) for part, _ in one.place.rows]
        for other in leaves:
            gap = one.told[0] - other.told[0]
            if one.settings == other.settings and any(gap.row):
                for side in (gap, -gap):
                    if point_of(Place([*closed, *other.place.rows, (side, True)], one.place.size)) is not None:
                        return True
    return False


class ContinuousTest(unittest.TestCase):
    def jumps(self, text):
        """Whether the model has a jump, checked leaf by leaf, and by evaluating the jump."""
        model = Model(text)
        found = jump_of(model)
        self.assertEqual(found is not None, has_jump(unfolded(model).leaves), text)
        if found is not None:
            self.check_jump(text, model, found)
        return found is not None

    def check_jump(self, text, model, found):
        self.assertIs(type(found), Jump)
        given = check_given(self, text, found.given)
        apart = Text(text)
        check_tuple_of_ratios(self, found.way, len(apart.fractions))
        check_ratio(self, found.value, told_at(text, given))
        check_ratio(self, found.limit)
        self.assertNotEqual(found.value, found.limit)
        steps = dict(zip(apart.fractions, fractions(found.way)))
        near = []
        for short in (Fraction(1, 10 ** 8), Fraction(1, 10 ** 9)):
            moved = [at + short * steps.get(name, 0) for name, at in zip(apart.names, given)]
            near.append(told_at(text, moved))
        # The numbers along the way lie on a line that ends at the limit.
        self.assertEqual(10 * near[1] - near[0], 9 * fraction(found.limit))
        again = way_slope(model, found.given, found.way)
        self.assertEqual((again.given, again.way, again.value, again.limit),
                         (found.given, found.way, found.value, found.limit))

    def test_lines_that_are_continuous(self):
        for features in (X, UNIT, PLANE, "yesno u\nfraction x from -1\n"):
            for lines in ("sum f 0 x 1", "hinge f 0 x 1", "hinge a 0 x 1\nhinge b 0 x -1\nsum f 0 a 1 b -1",
                          "leaky f 1/3 -1 x 2", "leaky f -5 -1/2 x 2", "leaky f 0 1 x 1", "clip f 0 1/2 1/3 x 1",
                          "highest f 0 , 0 x 1 , 2 x -3", "highest f 0 x 1 , 0 x 2", "sum f 7"):
                self.assertFalse(self.jumps(features + lines), lines)
        self.assertFalse(self.jumps("yesno u\nyesno v\ntree t\nask 0 u 1\ntell 3\nask 0 v 1\ntell 7\ntell -7"))

    def test_trees_with_and_without_jumps(self):
        self.assertTrue(self.jumps(X + step("0")))
        self.assertFalse(self.jumps(X + step("0", "3", "3")))
        self.assertFalse(self.jumps(X + step("0", "3", "3 x 8")))
        self.assertTrue(self.jumps(X + step("-1", "3", "3 x 8")))
        self.assertFalse(self.jumps(X + step("-1", "3", "-5 x 8")))
        self.assertFalse(self.jumps(PLANE + "tree t\nask 0 x 1\ntell 0 y 3\ntell 0 x -2 y 3"))
        self.assertTrue(self.jumps(PLANE + "tree t\nask 0 x 1\ntell 0 y 3\ntell 0 x -2 y 4"))
        # The jump is on one side of the line alone.
        half = "tree t\nask 0 x 1\nask 0 y 1\ntell 0\ntell 0 y 1\nask 0 y 1\ntell {}\ntell 0 x 1 y {}"
        self.assertFalse(self.jumps(PLANE + half.format("0 x 1", "1")))
        self.assertTrue(self.jumps(PLANE + half.format("0 x 1", "2")))
        self.assertTrue(self.jumps(PLANE + half.format("0 x 1 y 1", "1")))

    def test_gates_with_and_without_jumps(self):
        gate = "sign s no yes 0 x 1\nsum a {}\nsum b {}\ngate g s no a yes b"
        self.assertFalse(self.jumps(X + gate.format("1", "1 x 5")))
        self.assertTrue(self.jumps(X + gate.format("1", "2 x 5")))
        self.assertTrue(self.jumps(X + gate.format("0 x 1", "0 x 1") + "\ngate h s no a yes g\nsum i 0 h 1\n"
                                   "sum j 1\ngate k s no j yes i"))

    def test_a_jump_at_one_number_alone(self):
        self.assertTrue(self.jumps(X + DOT))
        self.assertEqual(fractions(jump_of(Model(X + DOT)).given), (0,))
        self.assertTrue(self.jumps(UNIT + DOT))
        self.assertFalse(self.jumps(X + DOT.replace("tell 7", "tell 0 x 9")))
        self.assertFalse(self.jumps("fraction x from 1 to 2\n" + DOT))
        line = "tree t\nask 0 x 1 y -1\nask 0 x -1 y 1\ntell {}\ntell 0\ntell 0"
        self.assertTrue(self.jumps(PLANE + line.format("0 x 1")))
        self.assertTrue(self.jumps(PLANE + line.format("1")))
        self.assertFalse(self.jumps(PLANE + line.format("0 x 4 y -4")))
        spot = "tree t\nask 0 x 1\nask 0 y 1\nask 0 x -1\nask 0 y -1\ntell {}\ntell 0\ntell 0\ntell 0\ntell 0"
        self.assertTrue(self.jumps(PLANE + spot.format("1/9")))
        self.assertFalse(self.jumps(PLANE + spot.format("0 x 3 y -2")))

    def test_a_jump_at_an_end_of_a_range(self):
        self.assertTrue(self.jumps(UNIT + step("0")))
        self.assertEqual(fractions(jump_of(Model(UNIT + step("0"))).given), (0,))
        self.assertFalse(self.jumps(UNIT + step("-1")))
        self.assertTrue(self.jumps(UNIT + "tree t\nask 1 x -1\ntell 3\ntell 4"))
        self.assertFalse(self.jumps(UNIT + "tree t\nask 0 x -1\ntell 3\ntell 4"))
        # Only the corner has another value.
        corner = "fraction x from 0\nfraction y from 0\ntree t\nask 0 x 1 y 1\ntell 5\ntell {}"
        self.assertTrue(self.jumps(corner.format("4")))
        self.assertFalse(self.jumps(corner.format("5 x 1")))
        # The only full leaf asks for y above 0, too.
        corner = "fraction x from 0\nfraction y from 0\ntree t\nask 0 x 1\nask 0 y 1\ntell {}\ntell 0\n"
        corner += "ask 0 y 1\ntell 0\ntell 0"
        self.assertEqual([leaf.is_full for leaf in unfolded(Model(corner.format("7"))).leaves], [False] * 3 + [True])
        self.assertTrue(self.jumps(corner.format("7")))
        self.assertFalse(self.jumps(corner.format("0 x 3 y 4")))

    def test_jumps_out_of_the_ranges_alone(self):
        for number in ("-1", "-2", "1", "1/2"):
            self.assertTrue(self.jumps(X + step(number)))
            self.assertFalse(self.jumps(UNIT + step(number)), number)
        self.assertTrue(self.jumps("fraction x to 1\n" + step("-1/2")))
        self.assertFalse(self.jumps("fraction x from 2\n" + step("-1/2")))

    def test_yesno_features_play_no_part(self):
        mixed = "fraction x from 0 to 1\nyesno u\n"
        self.assertFalse(self.jumps(mixed + "tree t\nask 0 u 1\ntell 5\ntell 0 x 1"))
        self.assertTrue(self.jumps(mixed + "tree t\nask -1/2 x 1 u 1\ntell 5\ntell 0"))
        self.assertEqual(jump_of(Model(mixed + "tree t\nask -1/2 x 1 u 1\ntell 5\ntell 0")).given[1], 0)
        self.assertFalse(self.jumps(mixed + "tree t\nask -2 x 1 u 1\ntell 5\ntell 0"))

    def test_many_models(self):
        rng = random.Random(141)
        jumps, even = 0, 0
        for text in some_texts(rng, 250, 3):
            if Model(text).tells == "number":
                if self.jumps(text):
                    jumps += 1
                else:
                    even += 1
        self.assertGreater(min(jumps, even), 3)

    def test_many_trees_and_gates(self):
        rng = random.Random(142)
        jumps, even = 0, 0
        for turn in range(120):
            kinds = ["sign", "sum", "tree", "gate", rng.choice(["hinge", "tree", "clip", "gate"])]
            text = random_text(rng, 1 + turn % 3, turn % 2, kinds, 0.3)
            if Model(text).tells == "number" and len(unfolded(Model(text)).leaves) < 40:
                if self.jumps(text):
                    jumps += 1
                else:
                    even += 1
        self.assertGreater(min(jumps, even), 10)

    def test_jumps_that_take_each_other_off(self):
        text = X + "tree a\nask 0 x 1\ntell 0\ntell 1\ntree b\nask 0 x 1\ntell 1\ntell 0\nsum f 0 a 1 b 1"
        self.assertFalse(self.jumps(text))
        self.assertTrue(self.jumps(text + "\nsum g 0 a 1 b 2"))
        # x is 0 at neither of them, but 0 itself is on neither side.
        text = X + "tree a\nask 0 x 1\ntell 0\ntell 1\ntree b\nask 0 x -1\ntell 0\ntell 1\nsum f 0 a 1 b 1"
        self.assertTrue(self.jumps(text))

    def test_models_of_classes(self):
        for text in (X + "sign s no yes 0 x 1", "yesno u\nrules r\nelse no"):
            check_raised(self, Unlike, {"what": "kind"}, jump_of, Model(text))


if __name__ == "__main__":
    unittest.main()
