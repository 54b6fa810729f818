import random
import unittest
from fractions import Fraction

from checking import NO_NUMBERS, check_raised, ratio
from hingeworks.errors import BadNumber, NotPlain, TooLong, TooMany, Unlike
from hingeworks.features import Features
from hingeworks.models import Model
from hingeworks.ratios import Ratio
from hingeworks.tables import Table
from hingeworks.training import trained
from learning import random_number, random_table, rows_of, table
from modeltexts import Maker
from reference import Text, split_planes
from slimmer import lines_text, number_text
from test_rounding import nearest

X = "fraction x"
HALF = Fraction(1, 2)
HEADS = {"sum": 2, "hinge": 2, "leaky": 3, "clip": 4, "highest": 2}


def stepped(text, given, label, rate, grid):
    """The text behind one step, as [79] tells it."""
    taken = Text(text)
    letters = dict(zip(taken.names, given))
    letters.update(taken.work(letters)[2])
    error = letters[taken.blocks[-1][0][1]] - label
    sensitivity = {block[0][1]: Fraction(0) for block in taken.blocks}
    sensitivity[taken.blocks[-1][0][1]] = Fraction(1)
    made = []
    for (head,) in reversed(taken.blocks):
        parts = split_planes(head[HEADS[head[0]]:])
        worths = [Fraction(part[0]) + sum(letters[name] * Fraction(item) for name, item in zip(part[1::2], part[2::2])) for part in parts]
        texts = []
        for part, share in zip(parts, shares(head, worths)):
            own = sensitivity[head[1]] * share
            pieces = [number_text(nearest(Fraction(part[0]) - rate * error * own, grid))]
            for name, item in zip(part[1::2], part[2::2]):
                if name in sensitivity:
                    sensitivity[name] += Fraction(item) * own
                fresh = nearest(Fraction(item) - rate * error * own * letters[name], grid)
                if fresh != 0:
                    pieces += [name, number_text(fresh)]
            texts.append(" ".join(pieces))
        made.insert(0, [[*head[:HEADS[head[0]]], *" , ".join(texts).split(" ")]])
    return lines_text(taken, made)


def shares(head, worths):
    if head[0] == "sum":
        return [1]
    if head[0] == "hinge":
        return [1 if worths[0] > 0 else 0]
    if head[0] == "leaky":
        return [1 if worths[0] > 0 else Fraction(head[2])]
    if head[0] == "clip":
        return [1 if Fraction(head[2]) < worths[0] <= Fraction(head[3]) else 0]
    return [1 if at == worths.index(max(worths)) else 0 for at in range(len(worths))]


class TrainingTest(unittest.TestCase):
    def check(self, text, one, order, rate, grid):
        """The last text; each step is worked out by itself."""
        found = trained(Model(text), one, order, ratio(rate), grid)
        self.assertEqual((type(found), len(found)), (tuple, len(order)))
        for number, model in zip(order, found):
            given, label = rows_of(one)[number]
            text = stepped(text, given, label, Fraction(rate), grid)
            self.assertIs(type(model), Model)
            self.assertEqual(model.text, text)
        return text

    def check_step(self, line, number, label, expected, rate=1, grid=1000, features=X):
        """One step with one row; the last lines of the text."""
        given = number if isinstance(number, tuple) else (number,)
        found = self.check(f"{features}\n{line}", table(features, (*given, label)), [0], rate, grid)
        self.assertEqual(found, f"{features}\n{expected}")

    def test_sums(self):
        self.check_step("sum f 0 x 1", 2, 3, "sum f 1 x 3")
        self.check_step("sum f 0 x 1", 2, 3, "sum f 1/2 x 2", HALF)
        self.check_step("sum f 1/2 x 1/2", 1, 1, "sum f 1/2 x 1/2")
        self.check_step("sum f 0", 2, 3, "sum f 3")
        self.check_step("sum f 0 x 2", 0, 1, "sum f 1 x 2")

    def test_hinges_on_off_and_at_0(self):
        self.check_step("hinge f 1 x 1", 1, 0, "hinge f -1 x -1")
        self.check_step("hinge f -3 x 1", 1, 5, "hinge f -3 x 1")
        self.check_step("hinge f -1 x 1", 1, 5, "hinge f -1 x 1")

    def test_leaky_lines_on_off_and_at_0(self):
        self.check_step("leaky f 1/2 1 x 1", 1, 1, "leaky f 1/2 0", 1)
        self.check_step("leaky f 1/2 -3 x 1", 1, 1, "leaky f 1/2 -2 x 2")
        self.check_step("leaky f 1/2 -1 x 1", 1, 1, "leaky f 1/2 -1/2 x 3/2")
        self.check_step("leaky f 1/7 0 x -1", 1, Fraction(-8, 7), "leaky f 1/7 -1/7 x -8/7", 1, 49)

    def test_clips_below_at_between_and_above(self):
        for number, expected in [(-1, "0 x 1"), (0, "0 x 1"), (HALF, "-1/2 x 3/4"), (1, "-1"), (2, "0 x 1")]:
            label = {HALF: 1, 1: 2}.get(number, 5)
            if number == HALF:
                self.check_step("clip f 0 1 0 x 1", number, label, "clip f 0 1 1/2 x 5/4")
            elif number == 1:
                self.check_step("clip f 0 1 0 x 1", number, label, "clip f 0 1 1 x 2")
            else:
                self.check_step("clip f 0 1 0 x 1", number, label, "clip f 0 1 " + expected)
        self.check_step("clip f 1/3 2/3 1/2 x 1", 0, HALF, "clip f 1/3 2/3 1/2 x 1")

    def test_highest_and_ties(self):
        self.check_step("highest f 0 x 1 , 1 x -1", 2, 3, "highest f 1 x 3 , 1 x -1")
        self.check_step("highest f 0 x 1 , 1 x -1", -1, 3, "highest f 0 x 1 , 2 x -2")
        # Of equal planes the earliest one.
        self.check_step("highest f 0 x 1 , 0 x 1 , 0 x 1", 1, 2, "highest f 1 x 2 , 0 x 1 , 0 x 1")
        self.check_step("highest f -9 , 1 , 0 x 1 , 1", 1, 2, "highest f -9 , 2 , 0 x 1 , 1")

    def test_a_letter_that_is_a_feature_or_a_value(self):
        # a is 2 and f is 5; e is 1, and the sensitivity of a is 2.
        self.check_step("sum a 1 x 1\nsum f 0 x 1 a 2", 1, 4, "sum a -1 x -1\nsum f -1")
        self.check_step("sum a 1 x 1\nsum f 0 x 1 a 2", 1, 6, "sum a 3 x 3\nsum f 1 x 2 a 4")
        # A value whose sensitivity is 0, and one that nothing uses.
        self.check_step("sum a 1 x 1\nhinge b -5 a 1\nsum c 7\nsum f 0 b 1", 1, 4, "sum a 1 x 1\nhinge b -5 a 1\nsum c 7\nsum f 4 b 1")

    def test_values_at_several_places(self):
        # a stands in b, in two planes of c, and in f.
        text = "sum a 0 x 1\nhinge b 0 a 2\nhighest c 0 a 3 , 1 a 1\nsum f 0 a 5 b 1 c 1"
        # At x = 1: a 1, b 2, c 3, f 10; the sensitivity of a is 5 + 2 + 3.
        self.check_step(text, 1, 9, "sum a -10 x -9\nhinge b -1 a 1\nhighest c -1 a 2 , 1 a 1\nsum f -1 a 4 b -1 c -2")

    def test_several_planes_of_one_value(self):
        self.check_step("highest f 0 x 1 , 0 x 2 , 5 x -1", 4, 9, "highest f 0 x 1 , 1 x 6 , 5 x -1")

    def test_multiples_that_become_0_stay_out(self):
        one = table(X, (1, 0), (1, 5))
        found = trained(Model(X + "\nsum f 0 x 1"), one, [0, 1], 1, 1)
        self.assertEqual([model.text for model in found], [X + "\nsum f -1", X + "\nsum f 5"])
        one = table(X, (Fraction(1, 3), 1))
        self.assertEqual(self.check(X + "\nsum f 0 x 1/3", one, [0], 0, 1), X + "\nsum f 0")

    def test_all_trained_numbers_are_rounded(self):
        # Halves go to the even multiple; the numbers that have not changed are rounded, too.
        self.check_step("sum f 3/8 x -3/8", 0, Fraction(3, 8), "sum f 1/2 x -1/2", 1, 4)
        self.check_step("sum f 1/8 x 5/8", 0, Fraction(1, 8), "sum f 0 x 1/2", 0, 4)
        self.check_step("hinge a -1/3 x 1/3\nleaky b 1/3 1/3\nclip c 1/3 2/3 1/3\nsum f 1/3 a 1/3", 0, Fraction(1, 3),
                        "hinge a 0\nleaky b 1/3 0\nclip c 1/3 2/3 0\nsum f 0", 1, 1)

    def test_rates(self):
        for rate, expected in [(0, "sum f 0 x 1"), (-1, "sum f -1 x -1"), (2, "sum f 2 x 5"), (Fraction(-1, 4), "sum f -1/4 x 1/2")]:
            self.check_step("sum f 0 x 1", 2, 3, expected, rate)

    def test_many_models(self):
        rng = random.Random(611)
        for turn in range(80):
            maker = Maker(rng)
            maker.features(1 + turn % 2, turn % 3 // 2, 0)
            for _ in range(rng.randint(1, 5)):
                maker.line(rng.choice(["sum", "hinge", "leaky", "clip", "highest"]))
            features = "\n".join(row for row in maker.rows if row.split(" ")[0] in ("fraction", "yesno"))
            one = random_table(rng, features, rng.randint(1, 4), None)
            order = [rng.randrange(len(one.rows)) for _ in range(rng.randint(1, 5))]
            self.check(maker.text(), one, order, rng.choice([HALF, Fraction(1, 10), -1, 0, random_number(rng)]), rng.choice([1, 2, 10, 36]))

    def test_steps_in_two_parts(self):
        rng = random.Random(612)
        text = X + "\nhinge a -1 x 2\nleaky b 1/3 1 x -1\nsum f 1/2 a 1 b -1"
        one = random_table(rng, X, 5, None)
        order = [rng.randrange(5) for _ in range(12)]
        whole = trained(Model(text), one, order, Ratio(1, 8), 100)
        first = trained(Model(text), one, order[:5], Ratio(1, 8), 100)
        second = trained(first[-1], one, order[5:], Ratio(1, 8), 100)
        self.assertEqual(whole, first + second)
        self.assertEqual(trained(Model(text), one, [], Ratio(1, 8), 100), ())
        self.assertEqual(trained(Model(text), one, tuple(order[:5]), Ratio(1, 8), 100), first)

    def test_the_order_of_errors(self):
        number, told = Model(X + "\nsum f 0"), Model(X + "\nsign s no yes 0")
        mixed = Model(X + "\nsum a 0\nsign s no yes 0\ntree t\ntell 0\nsum f 0")
        other = "fraction y"
        classes, labels = table(other, (0, "a")), table(other, (0, 1))
        bad = [0] * 101
        for model, one in [(told, classes), (told, labels), (number, classes), (mixed, classes), (told, Table(Features(other), []))]:
            check_raised(self, Unlike, {"what": "kind"}, trained, model, one, bad, 1, 0)
        for rows, name in [("sum a 0\nsign s no yes 0\ntree t\ntell 0\nsum f 0", "s"), ("tree t\ntell 0\nsign s no yes 0\nsum f 0", "t"), ("tree t\ntell 0", "t"),
                           ("sum a 0\nsign s no yes 0\ngate f s no a yes a", "s"), ("sum a 0\nrules s\nelse no\nsum f 0", "s"),
                           ("near n 1 x 1\nrow no 0\nsum f 0", "n"), ("choose c no 0 , yes 0\nvotes v no yes : c\nsum f 0", "c")]:
            for one in (labels, table(X, (0, 1))):
                check_raised(self, NotPlain, {"name": name}, trained, Model(X + "\n" + rows), one, bad, 1, 0)
        for one in (labels, table(X + " by 2", (0, 1)), Table(Features(other), [])):
            check_raised(self, Unlike, {"what": "features"}, trained, number, one, bad, 1, 0)
        good = table(X, (0, 1))
        for order in (bad, [None] * 101, (0,) * 1000):
            check_raised(self, TooMany, {"what": "steps", "many": len(order), "limit": 100}, trained, number, good, order, 1, 0)
        self.assertEqual(len(trained(number, good, [0] * 100, 1, 1)), 100)
        for item in (*NO_NUMBERS, 1, -1, Ratio(0)):
            check_raised(self, BadNumber, {"what": "row", "number": item}, trained, number, good, [0, item, None], 1, 0)
        check_raised(self, BadNumber, {"what": "row", "number": 0}, trained, number, Table(Features(X), []), [0], 1, 0)
        long = table(X, (0, 10 ** 4000))
        for grid in (*NO_NUMBERS, 0, -1, Ratio(2)):
            for one in (good, long):
                check_raised(self, BadNumber, {"what": "grid", "number": grid}, trained, number, one, [0], 1, grid)
                check_raised(self, BadNumber, {"what": "grid", "number": grid}, trained, number, one, [], 1, grid)
        check_raised(self, TooLong, {"digits": 4001}, trained, number, long, [0], 1, 1)

    def test_numbers_that_are_too_long(self):
        long = 10 ** 3999
        one = table("fraction x\nfraction y", (10, 0, long), (0, 1, 10 * long))
        model = Model("fraction x\nfraction y\nsum f 0 x 1 y 1")
        # The number becomes 10^3999 - 10, the multiple of x ten times as much.
        check_raised(self, TooLong, {"digits": 4001}, trained, model, one, [0], 2, 1)
        self.assertEqual(len(trained(model, one, [0], Ratio(1, 100), 1)), 1)
        check_raised(self, TooLong, {"digits": 4001}, trained, model, one, [0, 0, 1], 1, 1)
        # Factors and ends may have 4,000 digits.
        text = X + f"\nleaky a {long} -1\nclip b {-long} {long} 0 x 1\nsum f 0 a 1"
        self.assertEqual(trained(Model(text), table(X, (0, -long)), [0], 1, 1)[0].text, text)

    def test_arguments_stay_as_they_were(self):
        model, one, order = Model(X + "\nsum f 0 x 1"), table(X, (1, 0), (2, 1)), [0, 1, 1]
        first = trained(model, one, order, 1, 10)
        self.assertEqual((model.text, order, rows_of(one)), (X + "\nsum f 0 x 1", [0, 1, 1], [((1,), 0), ((2,), 1)]))
        self.assertEqual(first, trained(model, one, order, Ratio(1), 10))


if __name__ == "__main__":
    unittest.main()
