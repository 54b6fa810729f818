import random
import unittest
from fractions import Fraction

from checking import check_raised, check_ratio, check_tuple_of_ratios, fraction, fractions
from hingeworks.bends import Crease, creases, unranged
from hingeworks.continuous import jump_of
from hingeworks.errors import NotContinuous, NotPlain, Unlike
from hingeworks.models import Model
from hingeworks.pairs import pair_of
from hingeworks.onelayer import one_layer
from judging import gcd_of, moved, told_at
from modeltexts import random_text, some_texts
from reference import Text

X = "fraction x\n"
PLANE = "fraction x\nfraction y\n"
HALF = Fraction(1, 2)


def whole(text):
    """A text without its ends, made piece by piece."""
    rows = []
    for row in text.split("\n"):
        pieces = row.split(" ")
        if pieces[0] == "fraction" and not any(earlier[0] not in ("fraction", "yesno") for earlier in rows):
            kept = pieces[:2]
            for at in range(2, len(pieces), 2):
                kept += pieces[at:at + 2] if pieces[at] == "by" else []
            pieces = kept
        rows.append(pieces)
    return "\n".join(" ".join(pieces) for pieces in rows)


def worth(row, point):
    return row[0] + sum(share * item for share, item in zip(row[1:], point))


def continuous_texts(rng, rounds):
    """Texts over fractions alone whose lines are all continuous, with bends of both signs that end and have gaps."""
    for at in range(rounds):
        kinds = [rng.choice(["hinge", "leaky", "clip", "highest", "sum", "hinge"]) for _ in range(rng.randint(1, 4))]
        yield random_text(rng, 1 + at % 3, 0, kinds, 0.4)


class CreasesTest(unittest.TestCase):
    def creases(self, text):
        """The rows with their bends, after all that can be seen of them near their points is checked."""
        found = creases(Model(text))
        self.assertIs(type(found), tuple)
        for crease in found:
            self.assertIs(type(crease), Crease)
            self.assertEqual((type(crease.row), type(crease.bends), type(crease.points)), (tuple, tuple, tuple))
            self.check_row(crease.row, len(Text(text).fractions))
            bends = [fraction(bend) for bend in crease.bends]
            for bend in crease.bends:
                check_ratio(self, bend)
            self.assertEqual(bends, sorted(set(bends)))
            self.assertTrue(any(bends))
            self.assertEqual(len(crease.points), len(bends))
            for bend, point in zip(bends, crease.points):
                check_tuple_of_ratios(self, point, len(crease.row) - 1)
                self.check_bend(whole(text), crease.row, bend, fractions(point))
        rows = [crease.row for crease in found]
        self.assertEqual(rows, sorted(set(rows)))
        return [(crease.row, tuple(fraction(bend) for bend in crease.bends)) for crease in found]

    def check_row(self, row, size):
        self.assertEqual(len(row), size + 1)
        self.assertEqual([type(item) for item in row], [int] * len(row))
        common = 0
        for item in row:
            common = gcd_of(common, item)
        self.assertEqual(common, 1)
        self.assertGreater(next(item for item in row[1:] if item), 0)

    def check_bend(self, text, row, bend, point):
        """Near the point, less bend * |h|, the values lie on one plane."""
        self.assertEqual(worth(row, point), 0)
        rest = [told_at(text, point)]
        short = Fraction(1, 10 ** 9)
        for at in range(len(point)):
            for sign in (1, -1):
                near = moved(point, [sign if at == other else 0 for other in range(len(point))], short)
                rest.append(told_at(text, near) - bend * abs(worth(row, near)))
        slopes = [(rest[1 + 2 * at] - rest[0]) / short for at in range(len(point))]
        for at, slope in enumerate(slopes):
            self.assertEqual(rest[2 + 2 * at] - rest[0], -slope * short)
        rng = random.Random(7)
        for _ in range(6):
            way = [rng.randint(-9, 9) for _ in point]
            near = moved(point, way, short / 10)
            value = told_at(text, near) - bend * abs(worth(row, near))
            self.assertEqual(value, rest[0] + sum(slope * step for slope, step in zip(slopes, way)) * short / 10)

    def check_lines(self, rng, text, found):
        """Along a line, the model bends only where it meets a crease, and there by one of its bends."""
        size = len(Text(text).fractions)
        start = [Fraction(rng.randint(-10 ** 6, 10 ** 6), 10 ** 5 + 3) for _ in range(size)]
        way = [Fraction(rng.randint(-10 ** 6, 10 ** 6) or 1, 10 ** 5 + 19) for _ in range(size)]
        meets = {}
        for row, bends in found:
            slope = worth(row, way) - row[0]
            if slope != 0:
                meets.setdefault(-worth(row, start) / slope, []).append((abs(slope), bends))
        turns = sorted(meets)
        places = [turns[0] - 3] + turns + [turns[-1] + 3] if turns else [Fraction(-3), Fraction(3)]
        slopes = []
        for low, high in zip(places, places[1:]):
            values = [told_at(whole(text), moved(start, way, low + (high - low) * part / 4)) for part in range(5)]
            steps = {there - here for here, there in zip(values, values[1:])}
            self.assertEqual(len(steps), 1)
            slopes.append(steps.pop() * 4 / (high - low))
        for at, turn in enumerate(turns):
            if len(meets[turn]) == 1:
                share, bends = meets[turn][0]
                self.assertIn((slopes[at + 1] - slopes[at]) / (2 * share), bends)

    def test_hinges_leaky_lines_clips_and_highest(self):
        for text, expected in [
            (X + "hinge f 0 x 1", [((0, 1), (HALF,))]),
            (X + "hinge f -1 x 2", [((-1, 2), (HALF,))]),
            (X + "hinge f -1 x 1/2", [((-2, 1), (Fraction(1, 4),))]),
            (X + "hinge f 3 x -1", [((-3, 1), (HALF,))]),
            (X + "hinge a 0 x 1\nsum f 0 a -6", [((0, 1), (-3,))]),
            (X + "leaky f -1 0 x 1", [((0, 1), (1,))]),
            (X + "leaky f 1/2 0 x 1", [((0, 1), (Fraction(1, 4),))]),
            (X + "leaky f 1 0 x 1", []),
            (X + "leaky f 3 0 x 1", [((0, 1), (-1,))]),
            (X + "clip f 0 1 0 x 1", [((-1, 1), (-HALF,)), ((0, 1), (HALF,))]),
            (X + "highest f 0 , 0 x 1 , -1 x 2", [((-1, 1), (HALF,)), ((0, 1), (HALF,))]),
            (X + "highest f 0 , 0 x 1 , 0 x 1/2", [((0, 1), (HALF,))]),
            (PLANE + "highest f 0 x 1 , 0 y 1", [((0, 1, -1), (HALF,))]),
            (PLANE + "hinge f 1/2 x -1/3 y 1/5", [((-15, 10, -6), (Fraction(1, 60),))]),
        ]:
            self.assertEqual(self.creases(text), expected, text)

    def test_continuous_trees(self):
        tree = X + "tree t\nask 0 x 1\ntell 1\nask -2 x 1\ntell 1 x 3\ntell 9 x -1"
        self.assertEqual(self.creases(tree), [((-2, 1), (-2,)), ((0, 1), (Fraction(3, 2),))])
        self.assertEqual(self.creases(X + "tree t\nask 0 x 1\ntell 5 x 2\ntell 5 x 2"), [])

    def test_creases_that_end(self):
        # Above 0 alone the second hinge bends along y.
        text = PLANE + "hinge a 0 x 1\nhighest f 0 , 0 y 1 a -1"
        self.assertEqual(self.creases(text), [((0, 0, 1), (0, HALF)), ((0, 1, -1), (0, HALF)), ((0, 1, 0), (-HALF, 0))])
        self.assertEqual(self.creases(PLANE + "highest f 0 , 0 x 1 , 0 y 1"),
                         [((0, 0, 1), (0, HALF)), ((0, 1, -1), (0, HALF)), ((0, 1, 0), (0, HALF))])

    def test_creases_with_gaps_and_several_bends(self):
        # |x| counts only where |y| is great: at y between -1 and 1 the line x = 0 has no bend.
        gap = (PLANE + "hinge a 0 x 1\nhinge b 0 x -1\nhighest c -1 y 1 , -1 y -1\nsum d 0 a 1 b 1\n"
               "highest e 0 , 0 c 1\nhinge m 0 d 1 e -1\nsum f 0 d 1 m -1")
        found = dict(self.creases(gap))
        self.assertEqual(found[(0, 1, 0)], (0, 1))
        # |x - |y|| bends in both ways.
        several = PLANE + "leaky a -1 0 y 1\nleaky b -1 0 x 1 a -1"
        found = dict(self.creases(several))
        self.assertEqual(found[(0, 0, 1)], (-1, 1))
        self.assertEqual(found[(0, 1, 1)], (0, 1))

    def test_bends_that_take_each_other_off(self):
        self.assertEqual(self.creases(X + "hinge a 0 x 1\nhinge b 0 x -1\nsum f 0 a 1 b -1"), [])
        self.assertEqual(self.creases(X + "hinge a 0 x 1\nhinge b 0 x 2\nsum f 0 a 2 b -1"), [])
        self.assertEqual(self.creases(X + "hinge a 0 x 1\nhinge b 0 x 2\nsum f 0 a 2 b 1"), [((0, 1), (2,))])

    def test_switches_at_which_nothing_bends(self):
        self.assertEqual(self.creases(X + "hinge a 0 x 1\nsum f 0 x 4"), [])
        self.assertEqual(self.creases(X + "hinge a 0 x 1\nsign s no yes 5 x 1\nhinge f -3 x 1"), [((-3, 1), (HALF,))])
        self.assertEqual(self.creases(X + "hinge f 5"), [])
        self.assertEqual(self.creases(PLANE + "sum f 1 x 2 y 3"), [])

    def test_rows_that_are_scaled_and_turned(self):
        for plane in ("-1 x 2 y -4", "-1/2 x 1 y -2", "1 x -2 y 4", "7 x -14 y 28"):
            [(row, bends)] = self.creases(PLANE + f"hinge f {plane}")
            self.assertEqual(row, (-1, 2, -4))
            self.assertGreater(bends[0], 0)
        self.assertEqual(self.creases(PLANE + "hinge a 4 y -6"), [((-2, 0, 3), (1,))])

    def test_the_ranges_are_left_aside(self):
        for ends in ("", " from 1 to 2", " to 1", " from 5 by 7"):
            self.assertEqual(self.creases(f"fraction x{ends}\nhinge f 0 x 1"), [((0, 1), (HALF,))])

    def test_ascending_rows(self):
        rng = random.Random(181)
        rows = [f"hinge h{name} {rng.randint(-5, 5)} x {rng.choice([-3, -1, 2])} y {rng.choice([-2, 1, 3])}"
                for name in "abcdefgh"]
        found = self.creases(PLANE + "\n".join(rows) + "\nsum f 0 " + " ".join(f"h{name} 1" for name in "abcdefgh"))
        self.assertGreater(len(found), 5)
        self.assertTrue(all(bends[0] > 0 and len(bends) == 1 for _, bends in found))

    def test_many_models(self):
        rng = random.Random(182)
        several, none = 0, 0
        for text in continuous_texts(rng, 250):
            found = self.creases(text)
            several += any(len(bends) > 1 for _, bends in found)
            none += not found
            for _ in range(2):
                self.check_lines(rng, text, found)
        self.assertGreater(min(several, none), 10)

    def test_continuous_models_among_all_kinds(self):
        rng = random.Random(183)
        many, jumps = 0, 0
        for turn in range(150):
            text = random_text(rng, 1 + turn % 2, 0, ["sign", "sum", "tree", "gate", "hinge"], 0.4)
            model = Model(text)
            if model.tells == "number":
                if jump_of(unranged(model)) is None:
                    self.check_lines(rng, text, self.creases(text))
                    many += 1
                else:
                    check_raised(self, NotContinuous, {}, creases, model)
                    jumps += 1
        self.assertGreater(min(many, jumps), 10)


class UnrangedTest(unittest.TestCase):
    def test_units_stay(self):
        for line, expected in [("fraction x", "fraction x"), ("fraction x from 0", "fraction x"),
                               ("fraction x to 1/2", "fraction x"), ("fraction x from -1 to 3/2", "fraction x"),
                               ("fraction x from -1 to 3/2 by 2/3", "fraction x by 2/3"),
                               ("fraction x by 2/3", "fraction x by 2/3"), ("yesno x", "yesno x"),
                               ("yesno x by 3", "yesno x by 3"),
                               ("fraction from from 1 to 2 by 3", "fraction from by 3"),
                               ("fraction by from 1 by 3", "fraction by by 3"),
                               ("fraction to to 1\nyesno from", "fraction to\nyesno from")]:
            for lines in ("sum f 1/3", "tree t\nask 1\nclass from\nclass to"):
                found = unranged(Model(f"{line}\n{lines}"))
                self.assertIs(type(found), Model)
                self.assertEqual(found.text, f"{expected}\n{lines}")

    def test_models_of_all_kinds(self):
        rng = random.Random(184)
        for text in some_texts(rng, 150, 4):
            model = Model(text)
            self.assertEqual(unranged(model).text, whole(text))
            self.assertEqual(unranged(unranged(model)), unranged(model))
            self.assertEqual(model.text, text)


class WholeSpaceErrorsTest(unittest.TestCase):
    def test_the_order_of_errors(self):
        step = "tree t\nask 0 x 1\ntell 0\ntell 1"
        for call in (creases, pair_of, one_layer):
            for lines in ("fraction x\nyesno u\n", X):
                check_raised(self, Unlike, {"what": "kind"}, call, Model(lines + "sign s no yes 0 x 1"))
                check_raised(self, Unlike, {"what": "kind"}, call, Model(lines + step + "\nsign s no yes 0 t 1"))
            check_raised(self, NotPlain, {"name": "u"}, call, Model("fraction x\nyesno u\nyesno v\n" + step))
            check_raised(self, NotPlain, {"name": "v"}, call, Model("yesno v\nfraction x\nyesno u\nsum f 0 x 1"))
            check_raised(self, NotPlain, {"name": "v"}, call, Model("yesno v\nsum f 0"))
            for ends in ("", " from 1", " to 0", " from 5 to 7", " from -1 to 1"):
                check_raised(self, NotContinuous, {}, call, Model(f"fraction x{ends}\n{step}"))
                dot = "tree t\nask 0 x 1\nask 0 x -1\ntell 7\ntell 0\ntell 0"
                check_raised(self, NotContinuous, {}, call, Model(f"fraction x{ends}\n{dot}"))
                call(Model(f"fraction x{ends}\nhinge f 0 x 1"))
            self.assertIsNone(jump_of(Model(f"fraction x from 1\n{step}")))

    def test_alike_within_the_ranges_alone(self):
        one, other = Model("fraction x from 0 to 1\nsum f 0 x 1"), Model("fraction x from 0 to 1\nleaky f -1 0 x 1")
        self.assertEqual(len(creases(one)), 0)
        self.assertEqual(len(creases(other)), 1)
        self.assertEqual(len(pair_of(one).plus.planes), 1)
        self.assertEqual(len(pair_of(other).plus.planes), 2)
        self.assertEqual((one_layer(one).multiples, len(one_layer(other).multiples)), ((), 1))


if __name__ == "__main__":
    unittest.main()
