import random
import unittest
from fractions import Fraction
from itertools import product

from checking import check_empty_weights, check_raised, check_ratio, check_tuple_of_ratios, fraction, fractions, place, ratio
from hingeworks.errors import BadGiven, Unlike
from hingeworks.features import Features
from hingeworks.models import Model
from hingeworks.places import Place
from hingeworks.ratios import Ratio
from hingeworks.turnings import Nearest, distance_of, nearest
from hingeworks.unfolding import unfolded
from judging import check_given, moved, random_given, ratios, told_at
from modeltexts import random_text, some_texts
from reference import Text

X = "fraction x\n"
UNIT = "fraction x from 0 to 1\n"
PLANE = "fraction x\nfraction y\n"
MIXED = "fraction x from 0 to 1 by 2\nyesno u by 3\nfraction y by 1/2\nyesno v\n"
HALF = Fraction(1, 2)
MEASURES = ("greatest", "sum")


def distance(text, one, other, measure):
    """The distance of two inputs by its description."""
    apart = Text(text)
    changes = []
    for name, here, there in zip(apart.names, one, other):
        unit = apart.end(name, "by") or 1
        changes.append(Fraction(here != there) / unit if name in apart.yesnos else abs(here - there) / unit)
    return max(changes) if measure == "greatest" else sum(changes)


class TurningsTest(unittest.TestCase):
    def nearest(self, text, given, measure):
        """The kind and the distance, after all that shows them is checked; None if no class turns."""
        model = Model(text)
        found = nearest(model, given, measure)
        own = fractions(ratios(*[item if isinstance(item, int) else fraction(item) for item in given]))
        verdict = told_at(text, own)
        leaves = unfolded(model).leaves
        if found is None:
            self.assertEqual({leaf.told for leaf in leaves}, {(verdict,)})
            return None
        self.assertIs(type(found), Nearest)
        check_ratio(self, found.distance)
        turning = fraction(found.distance)
        self.assertGreaterEqual(turning, 0)
        self.assertNotEqual(found.told, verdict)
        spot = check_given(self, text, found.given)
        if found.kind == "reached":
            self.assertIsNone(found.way)
            self.assertEqual(told_at(text, spot), found.told)
            self.assertEqual(distance(text, own, spot, measure), turning)
        else:
            self.assertEqual(found.kind, "near")
            self.check_way(found, text, own, spot, measure, turning)
        self.check_papers(found, text, own, verdict, leaves, measure, turning)
        return found.kind, turning

    def check_way(self, found, text, own, spot, measure, turning):
        apart = Text(text)
        check_tuple_of_ratios(self, found.way, len(apart.names))
        way = fractions(found.way)
        for name, step in zip(apart.names, way):
            if name in apart.yesnos:
                self.assertEqual(step, 0)
        answers = set()
        near = []
        for short in (1, HALF, Fraction(1, 1000), Fraction(1, 10 ** 30), Fraction(1, 10 ** 60)):
            at = moved(spot, way, short)
            check_given(self, text, ratios(*at))
            told, asked, _, _ = apart.work(dict(zip(apart.names, at)))
            self.assertEqual(told, found.told)
            answers.add(asked)
            near.append(distance(text, own, at, measure) - turning)
        self.assertEqual(len(answers), 1)
        self.assertTrue(all(gap > 0 for gap in near))
        self.assertLess(near[-1], Fraction(1, 10 ** 20))

    def check_papers(self, found, text, own, verdict, leaves, measure, turning):
        self.assertIs(type(found.papers), tuple)
        self.assertEqual([number for number, _ in found.papers],
                         [at for at, leaf in enumerate(leaves) if leaf.told[0] != verdict])
        apart = Text(text)
        for pair in found.papers:
            self.assertEqual((type(pair), type(pair[0])), (tuple, int))
            leaf = leaves[pair[0]]
            settings = dict(zip(apart.yesnos, leaf.settings))
            beside = [settings.get(name, item) for name, item in zip(apart.names, own)]
            reach = distance(text, own, beside, measure)
            if reach > turning or (reach == turning and found.kind == "reached"):
                self.assertIsNone(pair[1])
                continue
            ball = self.ball(apart, own, measure, turning, reach, found.kind == "reached")
            check_empty_weights(self, pair[1], Place([*leaf.place.rows, *ball.rows], leaf.place.size))

    def ball(self, apart, own, measure, turning, reach, strict):
        """The rows of the ball, in their order."""
        sign = ">" if strict else ">="
        told = [(item, apart.end(name, "by") or 1) for name, item in zip(apart.names, own) if name in apart.fractions]
        size = len(told)
        rows = []
        if measure == "greatest":
            for at, (item, unit) in enumerate(told):
                letter = [1 if at == other else 0 for other in range(size)]
                rows.append((turning * unit + item, *[-share for share in letter], sign))
                rows.append((turning * unit - item, *letter, sign))
            return place(size, *rows)
        for signs in product((-1, 1), repeat=size):
            fixed = turning - reach + sum(mark * item / unit for mark, (item, unit) in zip(signs, told))
            rows.append((fixed, *[-mark / Fraction(unit) for mark, (_, unit) in zip(signs, told)], sign))
        return place(size, *rows)

    def both(self, text, *given):
        return tuple(self.nearest(text, ratios(*given), measure) for measure in MEASURES)

    def test_reached_and_near(self):
        sign = X + "sign s no yes 0 x 1"
        self.assertEqual(self.both(sign, 2), (("reached", 2), ("reached", 2)))
        self.assertEqual(self.both(sign, -3), (("near", 3), ("near", 3)))
        self.assertEqual(self.both(sign, Fraction(1, 10 ** 40)), (("reached", Fraction(1, 10 ** 40)),) * 2)
        self.assertEqual(self.both("fraction x by 1/2\nsign s no yes 0 x 1", 2), (("reached", 4), ("reached", 4)))

    def test_a_distance_of_0_that_is_near(self):
        self.assertEqual(self.both(X + "sign s no yes 0 x 1", 0), (("near", 0), ("near", 0)))
        self.assertEqual(self.both(UNIT + "sign s no yes 0 x 1", 0), (("near", 0), ("near", 0)))
        dot = "tree t\nask -1/2 x 1\nask 1/2 x -1\nclass dot\nclass low\nclass high"
        self.assertEqual(self.both(UNIT + dot, HALF), (("near", 0), ("near", 0)))
        self.assertEqual(self.both(PLANE + "sign s no yes 0 x 1 y 1", 1, -1), (("near", 0), ("near", 0)))

    def test_both_measures_and_units(self):
        sign = "sign s no yes -1 x 1 y 1"
        self.assertEqual(self.both(PLANE + sign, 0, 0), (("near", HALF), ("near", 1)))
        self.assertEqual(self.both(PLANE + sign, 2, 2), (("reached", Fraction(3, 2)), ("reached", 3)))
        units = "fraction x by 3\nfraction y by 1/2\n"
        self.assertEqual(self.both(units + sign, 0, 0), (("near", Fraction(2, 7)), ("near", Fraction(1, 3))))
        box = PLANE + "rules r\nif out -2 x 1\nif out -5 y 1\nelse in"
        self.assertEqual(self.both(box, 0, 0), (("near", 2), ("near", 2)))
        both = PLANE + "rules r\nif out -2 x 1 , -5 y 1\nelse in"
        self.assertEqual(self.both(both, 0, 0), (("near", 5), ("near", 7)))

    def test_ends_of_ranges(self):
        self.assertEqual(self.both("fraction x from 0 to 1\nfraction y\nsign s no yes -2 x 1 y 1", 0, 0),
                         (("near", 1), ("near", 2)))
        self.assertEqual(self.both("fraction x from 0 to 1/2\nfraction y\nsign s no yes -2 x 1 y 1", 0, 0),
                         (("near", Fraction(3, 2)), ("near", 2)))
        self.assertEqual(self.both(UNIT + "sign s no yes 1 x -1", 0), (("reached", 1), ("reached", 1)))
        self.assertEqual(self.both(UNIT + "sign s no yes -1 x 1", 0), (None, None))

    def test_a_reached_distance_comes_ahead_of_an_equal_near_one(self):
        text = X + "rules r\nif right -1 x 1\nif middle 1 x 1\nelse left"
        self.assertEqual(self.both(text, 0), (("reached", 1), ("reached", 1)))
        self.assertEqual(nearest(Model(text), (0,), "sum").told, "left")
        turned = X + "rules r\nif left -1 x -1\nif middle 1 x -1\nelse right"
        self.assertEqual(self.both(turned, 0), (("reached", 1), ("reached", 1)))
        self.assertEqual(nearest(Model(turned), (0,), "sum").told, "right")
        # The leaf that is near stands first.
        tree = X + "tree t\nask 0 x -1\nask -1 x 1\nclass middle\nclass right\nask 1 x 1\nclass left\nclass middle"
        self.assertEqual(self.both(tree, 0), (("reached", 1), ("reached", 1)))
        self.assertEqual(nearest(Model(tree), (0,), "greatest").told, "left")

    def test_turnings_by_settings_alone(self):
        sign = "sign s no yes -1/2 u 1"
        self.assertEqual(self.both("yesno u\n" + sign, 0), (("reached", 1), ("reached", 1)))
        self.assertEqual(self.both("yesno u by 4\n" + sign, 1), (("reached", Fraction(1, 4)),) * 2)
        both = "yesno u by 2\nyesno v\nsign s no yes -3/2 u 1 v 1"
        self.assertEqual(self.both(both, 0, 0), (("reached", 1), ("reached", Fraction(3, 2))))
        self.assertEqual(self.both(both, 1, 1), (("reached", HALF), ("reached", HALF)))
        self.assertEqual(self.both(X + "yesno u\n" + sign, 7, 0), (("reached", 1), ("reached", 1)))

    def test_settings_and_fractions_together(self):
        text = MIXED + "sign s no yes -1 x 1 u 1/2"
        # x alone cannot grow far enough; with u it has to grow beyond 1/2.
        self.assertEqual(self.both(text, 0, 0, 0, 0), (("reached", Fraction(1, 3)), ("near", Fraction(7, 12))))
        self.assertEqual(self.both(text, 0, 1, 0, 0), (("near", Fraction(1, 4)), ("near", Fraction(1, 4))))
        self.assertEqual(self.both(text, 1, 0, 5, 1), (("reached", Fraction(1, 3)), ("reached", Fraction(1, 3))))

    def test_one_class_for_all_inputs(self):
        for text in (X + "rules r\nelse no", X + "sign s no yes 0", UNIT + "sign s no yes -1 x 1",
                     "yesno u\nsign s no yes -1 u 1"):
            self.assertEqual(self.both(text, 0), (None, None))

    def test_many_models(self):
        rng = random.Random(221)
        kinds = {"reached": 0, "near": 0, None: 0}
        texts = list(some_texts(rng, 150, 3))
        texts += [random_text(rng, 1 + at % 3, at % 3, ["hinge", "sign", "rules"], 0.5) for at in range(60)]
        for text in texts:
            if Model(text).tells == "class":
                given = random_given(rng, text)
                for found in self.both(text, *fractions(given)):
                    kinds[None if found is None else found[0]] += 1
        self.assertGreater(min(kinds.values()), 30)

    def test_no_input_is_nearer(self):
        rng = random.Random(222)
        for turn in range(60):
            text = random_text(rng, 1 + turn % 2, turn % 2, ["sign", "choose", "rules"], 0.5)
            given = random_given(rng, text)
            for measure in MEASURES:
                found = self.nearest(text, given, measure)
                for _ in range(10):
                    other = fractions(random_given(rng, text))
                    if told_at(text, other) != told_at(text, fractions(given)):
                        self.assertGreaterEqual(distance(text, fractions(given), other, measure), found[1])

    def test_integers_stand_for_ratios(self):
        self.assertEqual(self.nearest(X + "sign s no yes 0 x 1", (3,), "sum"), ("reached", 3))
        self.assertEqual(self.nearest("yesno u\n" + X + "sign s no yes 0 x 1", (0, -3), "greatest"), ("near", 3))

    def test_the_order_of_errors(self):
        number, told = Model(UNIT + "sum f 0 x 1"), Model(UNIT + "sign s no yes 0 x 1")
        wrong = [None, 0, "least", "", ["sum"], ("sum",), {}, "Sum", True, Ratio(1)]
        for measure in [*MEASURES, *wrong]:
            for given in ((0,), (5,), None):
                check_raised(self, Unlike, {"what": "kind"}, nearest, number, given, measure)
            for given in ((5,), [0], None, (), "0", (True,), (0, 0), 0, (1.0,)):
                check_raised(self, BadGiven, {"what": "given"}, nearest, told, given, measure)
        for measure in wrong:
            check_raised(self, Unlike, {"what": "measure"}, nearest, told, (0,), measure)
            check_raised(self, Unlike, {"what": "measure"}, nearest, Model(UNIT + "rules r\nelse no"), (0,), measure)

    def test_asked_again(self):
        model = Model(MIXED + "hinge a -1/2 x 1 u 1\nsign s no yes -1/4 y 1 a 1")
        for measure in MEASURES:
            one, other = [nearest(model, (0, 1, 0, 0), measure) for _ in range(2)]
            self.assertEqual((one.kind, one.distance, one.given, one.way, one.told, one.papers),
                             (other.kind, other.distance, other.given, other.way, other.told, other.papers))


class DistanceTest(unittest.TestCase):
    def test_both_measures_units_and_unlike_yesno_features(self):
        features = Features(MIXED[:-1])
        for one, other, greatest, total in [
            ((0, 0, 0, 0), (1, 1, 1, 1), 2, Fraction(1, 2) + Fraction(1, 3) + 2 + 1),
            ((0, 0, 0, 0), (1, 1, 0, 0), HALF, Fraction(5, 6)), ((1, 1, 5, 1), (1, 1, 5, 1), 0, 0),
            ((0, 1, 0, 0), (0, 0, 0, 0), Fraction(1, 3), Fraction(1, 3)),
            ((0, 0, Fraction(-3, 7), 1), (1, 0, Fraction(1, 7), 1), Fraction(8, 7), Fraction(8, 7) + HALF),
        ]:
            for first, second in ((one, other), (other, one)):
                check_ratio(self, distance_of(features, ratios(*first), ratios(*second), "greatest"), greatest)
                check_ratio(self, distance_of(features, ratios(*first), ratios(*second), "sum"), total)
        self.assertEqual(distance_of(features, (0, 0, 0, 0), (1, 0, 0, 0), "sum"), Ratio(1, 2))

    def test_many_distances(self):
        rng = random.Random(223)
        for text in some_texts(rng, 60, 1):
            features = Model(text).features
            one, other = random_given(rng, text), random_given(rng, text)
            for measure in MEASURES:
                check_ratio(self, distance_of(features, one, other, measure),
                            distance(text, fractions(one), fractions(other), measure))

    def test_the_order_of_errors(self):
        features = Features("fraction x from 0 to 1\nyesno u")
        good = (ratio(HALF), 1)
        wrong = [None, (), (0,), (0, 0, 0), (2, 0), (0, 2), [0, 0], "00", (True, 0), (0, ratio(HALF)), {}, 1.5]
        for measure in [*MEASURES, "least", None, ["sum"]]:
            for bad in wrong:
                check_raised(self, BadGiven, {"what": "one"}, distance_of, features, bad, good, measure)
                check_raised(self, BadGiven, {"what": "one"}, distance_of, features, bad, None, measure)
                check_raised(self, BadGiven, {"what": "other"}, distance_of, features, good, bad, measure)
        for measure in ("least", None, ["sum"], "", 1, Ratio(1), {}):
            check_raised(self, Unlike, {"what": "measure"}, distance_of, features, good, good, measure)


if __name__ == "__main__":
    unittest.main()
