import random
import unittest
from fractions import Fraction

from checking import NO_NUMBERS, check_raised, check_ratio, fraction, ratio
from hingeworks.errors import BadNumber, NotFull, TooLong, Unlike
from hingeworks.features import Features
from hingeworks.models import Model
from hingeworks.ratios import Ratio
from hingeworks.squares import least_squares, square_sum
from hingeworks.tables import Table
from judging import told_at
from learning import product, random_table, rank, rows_of, square_line, table
from modeltexts import some_texts
from reference import Text
from slimmer import plane_text

X = "fraction x"
MIXED = "fraction x from 0 to 10 by 2\nyesno u\nfraction y"
HALF = Fraction(1, 2)


class LeastSquaresTest(unittest.TestCase):
    def check(self, one, pull=0, expected=None):
        """The line; the sums of the document's fact are added up."""
        found = least_squares(one, ratio(pull))
        self.assertIs(type(found), Model)
        features, last = found.text.rsplit("\n", 1)
        self.assertEqual(features, one.features.text)
        taken = Text(found.text)
        pieces = last.split(" ")
        self.assertEqual(pieces[0], "sum")
        multiples = dict(zip(pieces[3::2], map(Fraction, pieces[4::2])))
        multiples = [multiples.get(name, Fraction(0)) for name in taken.names]
        gaps = [Fraction(pieces[2]) + product(multiples, given) - label for given, label in rows_of(one)]
        self.assertEqual(sum(gaps), 0)
        for at, multiple in enumerate(multiples):
            self.assertEqual(sum(gap * given[at] for gap, (given, _) in zip(gaps, rows_of(one))) + pull * multiple, 0)
        self.assertEqual(last, f"sum {pieces[1]} " + plane_text(Fraction(pieces[2]), zip(taken.names, multiples)))
        if expected is not None:
            self.assertEqual(last, expected)
        return found

    def test_lines(self):
        for rows, expected in [
            ([(0, 1), (1, 3)], "sum learned 1 x 2"), ([(0, 0), (1, 1), (2, 1)], "sum learned 1/6 x 1/2"), ([(0, 5), (1, 5)], "sum learned 5"),
            ([(0, 1), (1, 0), (0, 0), (1, 1)], "sum learned 1/2"), ([(-1, 0), (1, 0)], "sum learned 0"), ([(1, 2), (2, 4)], "sum learned 0 x 2"),
            ([(HALF, 1), (HALF, 2), (Fraction(5, 2), 0)], "sum learned 15/8 x -3/4"),
        ]:
            self.check(table(X, *rows), 0, expected)
            self.assertEqual(least_squares(table(X, *rows)), least_squares(table(X, *rows), Ratio(0)))
        self.check(table(MIXED, (0, 0, 0, 1), (1, 0, 0, 3), (0, 1, 0, 6), (0, 0, 1, 0)), 0, "sum learned 1 x 2 u 5 y -1")

    def test_pulls(self):
        one = table(X, (0, 0), (1, 2))
        for pull, expected in [(0, "sum learned 0 x 2"), (HALF, "sum learned 1/2 x 1"), (1, "sum learned 2/3 x 2/3"), (10 ** 30, None)]:
            self.check(one, pull, expected)
        # With a pull one row is enough, and the number is not pulled.
        self.check(table(X, (3, 7)), 1, "sum learned 7")
        self.check(table(MIXED, (3, 1, 0, -7), (3, 1, 0, -6)), Fraction(1, 100), "sum learned -13/2")

    def test_equal_rows(self):
        self.check(table(X, (0, 1), (0, 1), (0, 4), (1, 1)), 0, "sum learned 2 x -1")

    def test_names(self):
        self.assertEqual(least_squares(table("fraction learned", (0, 1), (1, 3))).names, ("learneda",))
        self.assertEqual(least_squares(table("fraction learned\nfraction learneda", (0, 0, 1)), 1).names, ("learnedb",))

    def test_features_that_depend_on_one_another(self):
        for features, rows, many in [
            (X, [], 0), (X, [(5, 1)], 1), (X, [(5, 1), (5, 2)], 1), (MIXED, [], 0), (MIXED, [(0, 0, 0, 1)] * 5, 1),
            ("fraction x\nfraction y", [(0, 0, 1), (1, 2, 2), (2, 4, 3)], 2), ("fraction x\nfraction y", [(0, 1, 1), (1, 0, 2), (2, -1, 3)], 2),
            ("fraction x\nfraction y", [(1, 1, 5), (1, 1, 6)], 1), (MIXED, [(0, 0, 0, 1), (1, 1, 1, 1), (2, 1, 2, 1), (0, 1, 0, 0)], 3),
            ("yesno u\nyesno v", [(0, 1, 0), (1, 0, 1), (0, 1, 1)], 2), ("fraction x\nfraction y\nfraction z", [(0, 5, 1, 1), (0, 5, 2, 2)], 2),
        ]:
            one = table(features, *rows)
            check_raised(self, NotFull, {"rank": many}, least_squares, one)
            check_raised(self, NotFull, {"rank": many}, least_squares, one, Ratio(0))
            if rows:
                self.check(one, 1)
                self.check(one, Fraction(1, 10 ** 20))
            else:
                check_raised(self, NotFull, {"rank": 0}, least_squares, one, 5)

    def test_many_tables(self):
        rng = random.Random(561)
        full, ranks = 0, set()
        for turn in range(120):
            features = [X, "fraction x\nyesno u", "fraction x\nfraction y\nyesno u", "yesno u\nyesno v\nfraction x\nfraction y"][turn % 4]
            one = random_table(rng, features, rng.randint(1, 9), None, 1 if turn % 3 else 5)
            pull = rng.choice([0, 0, 1, Fraction(2, 7)])
            expected = square_line(rows_of(one), pull)
            if expected is None:
                many = rank([(1, *given) for given, _ in rows_of(one)])
                ranks.add(many)
                check_raised(self, NotFull, {"rank": many}, least_squares, one, ratio(pull))
            else:
                full += 1
                found = self.check(one, pull)
                self.assertTrue(found.text.endswith(plane_text(expected[0], zip(Text(found.text).names, expected[1:]))))
        self.assertGreater(full, 40)
        self.assertGreater(len(ranks), 2)

    def test_sixty_rows_of_long_numbers(self):
        rng = random.Random(562)
        rows = [(*[rng.randint(-10 ** 40, 10 ** 40) for _ in range(6)], rng.randint(-10 ** 40, 10 ** 40)) for _ in range(60)]
        self.check(table("\n".join(f"fraction {name}" for name in "uvwxyz"), *rows))

    def test_the_order_of_errors(self):
        long = 10 ** 4000
        classes = table(X, (0, "a"))
        for pull in (0, -1, None, "1"):
            check_raised(self, Unlike, {"what": "kind"}, least_squares, classes, pull)
        for one in (Table(Features(X), []), table(X, (0, 1)), table(X, (0, long), (1, 0))):
            for pull in (-1, Ratio(-1, 7), *NO_NUMBERS):
                check_raised(self, BadNumber, {"what": "pull", "number": pull}, least_squares, one, pull)
        check_raised(self, NotFull, {"rank": 1}, least_squares, table(X, (0, long)))
        check_raised(self, TooLong, {"digits": 4001}, least_squares, table(X, (0, long)), 1)
        for rows, digits in [([(0, long), (1, 1)], 4001), ([(0, 0), (1, 10 * long)], 4002), ([(0, 1), (Ratio(1, 10 * long), 2)], 4002),
                             ([(0, Fraction(1, long)), (1, long * 100)], 4001)]:
            check_raised(self, TooLong, {"digits": digits}, least_squares, self.raw(rows))
        self.assertIn("9" * 4000, least_squares(table(X, (0, long - 1), (1, 0))).text)

    def raw(self, rows):
        return Table(Features(X), [((given if isinstance(given, Ratio) else ratio(given),), ratio(label)) for given, label in rows])


class SquareSumTest(unittest.TestCase):
    def test_sums(self):
        model = Model(X + "\nhinge f 0 x 2")
        for rows, expected in [([], 0), ([(0, 0)], 0), ([(1, 5)], 9), ([(1, 5), (-1, HALF), (1, 5)], Fraction(73, 4)), ([(3, 6)], 0)]:
            check_ratio(self, square_sum(model, table(X, *rows)), expected)

    def test_any_number_model(self):
        rng = random.Random(563)
        many = 0
        for text in some_texts(rng, 120, 3):
            taken = Text(text)
            features = "\n".join(f"{row[0]} {row[1]}" for row in taken.features)
            text = text.replace("\n".join(" ".join(row) for row in taken.features), features)
            if Model(text).tells == "number":
                many += 1
                one = random_table(rng, features, rng.randint(0, 6), None)
                expected = sum(((told_at(text, given) - label) ** 2 for given, label in rows_of(one)), Fraction(0))
                check_ratio(self, square_sum(Model(text), one), expected)
        self.assertGreater(many, 40)

    def test_it_is_least(self):
        rng = random.Random(564)
        one = random_table(rng, "fraction x\nfraction y", 8, None)
        best = fraction(square_sum(least_squares(one), one))
        for _ in range(20):
            other = Model("fraction x\nfraction y\nsum f " + plane_text(rng.randint(-2, 2), [("x", rng.randint(-2, 2)), ("y", rng.randint(-2, 2))]))
            self.assertLessEqual(best, fraction(square_sum(other, one)))

    def test_the_order_of_errors(self):
        number, told = Model(X + "\nsum f 0"), Model(X + "\nsign s no yes 0")
        for model, one in [(told, table(X + " by 2", (0, "a"))), (number, table("fraction y", (0, 1))), (number, Table(Features(X + " from 0"), []))]:
            check_raised(self, Unlike, {"what": "features"}, square_sum, model, one)
        for model, one in [(told, table(X, (0, "a"))), (told, table(X, (0, 1))), (told, Table(Features(X), [])), (number, table(X, (0, "a")))]:
            check_raised(self, Unlike, {"what": "kind"}, square_sum, model, one)

    def test_numbers_of_any_length(self):
        long = 10 ** 3999
        model = Model(X + f"\nsum f {long}")
        self.assertEqual(square_sum(model, table(X, (0, -long))).top, 4 * long * long)


if __name__ == "__main__":
    unittest.main()
