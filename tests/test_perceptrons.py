import random
import unittest
from fractions import Fraction

from checking import NO_NUMBERS, check_raised, check_tuple_of_ratios, fractions, ratio
from hingeworks.errors import BadNumber, TooLong, TooMany, Unlike
from hingeworks.features import Features
from hingeworks.models import Model
from hingeworks.perceptrons import Steps, fence_model, run_perceptron
from hingeworks.ratios import Ratio
from hingeworks.tables import Table
from judging import told_at
from learning import added, product, random_number, random_table, rows_of, signed, table
from slimmer import plane_text

X = "fraction x"
TWO = "fraction x\nyesno u"
HALF = Fraction(1, 2)
NONE = Table(Features(X), [])
# Tables that have not exactly two classes.
UNLIKE = [NONE, table(X, (0, 1), (1, 2)), table(X, (0, "a"), (1, "a")), table(X, (0, "a"), (1, "b"), (2, "c"))]


class RunPerceptronTest(unittest.TestCase):
    def run_steps(self, one, order, start=None):
        """The weights and the errors, checked step by step."""
        given = None if start is None else [ratio(item) for item in start]
        found = run_perceptron(one, order, given)
        self.assertIs(type(found), Steps)
        self.assertEqual((type(found.weights), type(found.errors), len(found.weights)), (tuple, tuple, len(order) + 1))
        size = len(one.features.names) + 1
        rows = signed(rows_of(one))
        weights = tuple(Fraction(item) for item in (start or [0] * size))
        errors = []
        for step, number in enumerate(order):
            check_tuple_of_ratios(self, found.weights[step], size)
            self.assertEqual(fractions(found.weights[step]), weights)
            if product(weights, rows[number]) <= 0:
                weights = added(weights, rows[number])
                errors.append(step)
        self.assertEqual(fractions(found.weights[-1]), weights)
        self.assertEqual(found.errors, tuple(errors))
        return found.errors

    def test_products_below_0_exactly_0_and_above(self):
        one = table(X, (1, "a"), (2, "b"))
        for start, order, errors in [
            (None, [0], (0,)), (None, [1, 1], (0,)), ([0, -1], [0], ()), ([0, 1], [0], (0,)), ([0, 1], [1], ()), ([-2, 1], [1], (0,)),
            ([-2, 1], [0], ()), ([-2, Fraction(1000001, 1000000)], [1], ()), ([-2, Fraction(999999, 1000000)], [1], (0,)), ([0, 0], [1, 0, 1], (0, 1)), ([0, 0], [0, 1, 0, 1], (0, 1, 2, 3)),
        ]:
            self.assertEqual(self.run_steps(one, order, start), errors)

    def test_the_first_class_is_that_of_the_first_row(self):
        one = table(X, (3, "b"), (5, "a"))
        self.assertEqual(fractions(run_perceptron(one, [0]).weights[1]), (-1, -3))
        self.assertEqual(fractions(run_perceptron(one, [1]).weights[1]), (1, 5))

    def test_starts(self):
        one = table(TWO, (1, 0, "a"), (HALF, 1, "b"))
        for start in (None, [0, 0, 0], (0, 0, 0), [Ratio(0), 0, Ratio(0, 5)]):
            found = run_perceptron(one, [1, 0], start)
            self.assertEqual(fractions(found.weights[-1]), (0, -HALF, 1))
        start = [Ratio(1, 2), 3, -1]
        found = run_perceptron(one, [], start)
        start[0] = 9
        self.assertEqual([fractions(weights) for weights in found.weights], [(HALF, 3, -1)])
        check_tuple_of_ratios(self, found.weights[0], 3)
        self.assertEqual(found.errors, ())
        self.run_steps(one, [0, 1, 1, 0, 0], [HALF, Fraction(-7, 3), 10 ** 30])
        for wrong in ([], [0, 0], [0] * 4, (), "000", 0, 1.5, True, {0: 0}, object(), *[[0, item, 0] for item in NO_NUMBERS], [0, 0, [0]]):
            check_raised(self, BadNumber, {"what": "start", "number": wrong}, run_perceptron, one, [0], wrong)
            check_raised(self, BadNumber, {"what": "start", "number": wrong}, run_perceptron, one, [], wrong)

    def test_two_thousand_steps(self):
        one = table(X, (1, "a"), (2, "b"))
        for order in ([0, 1] * 1000, (0,) * 2000):
            self.assertEqual(len(run_perceptron(one, order).weights), 2001)
        for order in ([0, 1] * 1000 + [0], [None] * 2001, (0,) * 5000):
            check_raised(self, TooMany, {"what": "steps", "many": len(order), "limit": 2000}, run_perceptron, one, order, "start")

    def test_wrong_row_numbers(self):
        one = table(X, (1, "a"), (2, "b"))
        for number in (*NO_NUMBERS, 2, -1, 10 ** 30, Ratio(0), Ratio(1)):
            for order in ([number], [0, 1, number, None], (number, 5)):
                check_raised(self, BadNumber, {"what": "row", "number": number}, run_perceptron, one, order)
                check_raised(self, BadNumber, {"what": "row", "number": number}, run_perceptron, one, order, "start")

    def test_two_classes(self):
        for one in UNLIKE:
            for order, start in [([], None), ([0], None), ([7], None), ([0] * 2001, None), ([None], "start")]:
                check_raised(self, Unlike, {"what": "classes"}, run_perceptron, one, order, start)

    def test_runs_in_two_parts(self):
        rng = random.Random(571)
        for turn in range(30):
            one = random_table(rng, [X, TWO, "fraction x\nfraction y"][turn % 3], rng.randint(2, 6), ["a", "b"]).put_in(*self.other(turn))
            if len(one.classes) == 2:
                order = [rng.randrange(len(one.rows)) for _ in range(rng.randint(0, 40))]
                start = rng.choice([None, [random_number(rng) for _ in range(len(one.features.names) + 1)]])
                whole = self.run_steps(one, order, start)
                cut = rng.randint(0, len(order))
                first = run_perceptron(one, order[:cut], None if start is None else [ratio(item) for item in start])
                second = run_perceptron(one, order[cut:], first.weights[-1])
                self.assertEqual(whole, first.errors + tuple(step + cut for step in second.errors))
                self.assertEqual(run_perceptron(one, order, None if start is None else [ratio(item) for item in start]).weights,
                                 first.weights + second.weights[1:])

    def other(self, turn):
        return [((0,), "b"), ((0, 1), "b"), ((0, 0), "a")][turn % 3]

    def test_arguments_stay_as_they_were(self):
        one = table(X, (1, "a"), (2, "b"))
        order, start = [0, 1, 0], [1, Ratio(1, 2)]
        first = run_perceptron(one, order, start)
        self.assertEqual((order, start), ([0, 1, 0], [1, Ratio(1, 2)]))
        again = run_perceptron(one, order, start)
        self.assertEqual((first.weights, first.errors), (again.weights, again.errors))


class FenceModelTest(unittest.TestCase):
    def check(self, one, weights):
        found = fence_model(one, [ratio(item) for item in weights])
        self.assertIs(type(found), Model)
        plane = plane_text(weights[0], zip(one.features.names, weights[1:]))
        self.assertEqual(found.text, f"{one.features.text}\nsign learned {' '.join(one.classes)} {plane}")
        for given, _ in rows_of(one):
            told = one.classes[1] if weights[0] + product(weights[1:], given) > 0 else one.classes[0]
            self.assertEqual(told_at(found.text, given), told)

    def test_models(self):
        one = table(TWO, (1, 0, "no"), (HALF, 1, "yes"), (-3, 1, "no"))
        for weights in ([0, 0, 0], [1, 0, 0], [0, HALF, 0], [-1, 0, Fraction(-2, 3)], [3, -4, 5], [0, 0, 10 ** 30]):
            self.check(one, weights)
        self.assertEqual(fence_model(one, (1, Ratio(-1, 2), 0)).text, TWO + "\nsign learned no yes 1 x -1/2")
        self.assertEqual(fence_model(table("fraction learned", (1, "b"), (0, "a")), [0, 1]).text,
                         "fraction learned\nsign learneda b a 0 learned 1")
        self.assertEqual(fence_model(table(X, (0, "x"), (1, "learned")), [0, 1]).classes, ("x", "learned"))

    def test_wrong_weights(self):
        one = table(TWO, (1, 0, "no"), (HALF, 1, "yes"))
        for wrong in ([], [0, 0], [0] * 4, None, "000", 0, 1.5, True, {}, object(), *[[0, item, 0] for item in NO_NUMBERS], ([0], 0, 0)):
            check_raised(self, BadNumber, {"what": "weights", "number": wrong}, fence_model, one, wrong)
        for table_of_others in UNLIKE:
            for weights in ([0, 0], None, [10 ** 4000, 0], [0]):
                check_raised(self, Unlike, {"what": "classes"}, fence_model, table_of_others, weights)

    def test_numbers_of_4000_digits_and_of_4001(self):
        one = table("fraction x\nfraction y", (1, 0, "no"), (HALF, 1, "yes"))
        good, long = 10 ** 3999, 10 ** 4000
        for weights in ([good, -good, Ratio(1, good)], [0, 0, good], [Ratio(-1, good), 0, 0]):
            self.assertEqual(fence_model(one, weights).kind_of("learned"), "sign")
        for weights, digits in [([long, 0, 0], 4001), ([0, 0, long * 10], 4002), ([0, Ratio(1, long), long * 10], 4001), ([0, -long * 10, long], 4002),
                                ([good, Ratio(long * 1000, 7), long], 4004)]:
            check_raised(self, TooLong, {"digits": digits}, fence_model, one, weights)
        check_raised(self, BadNumber, {"what": "weights", "number": [long, 0, None]}, fence_model, one, [long, 0, None])


if __name__ == "__main__":
    unittest.main()
