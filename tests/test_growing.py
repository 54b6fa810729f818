import random
import unittest
from fractions import Fraction

from checking import NO_NUMBERS, check_raised
from hingeworks.errors import BadNumber, NotFull, TooLong
from hingeworks.features import Features
from hingeworks.growing import grown
from hingeworks.models import Model
from hingeworks.ratios import Ratio
from hingeworks.tables import Table
from judging import told_at
from learning import random_table, rows_of, table
from slimmer import number_text

X = "fraction x"
PLANE = "fraction x\nfraction y"


def worth(rows):
    labels = [label for _, label in rows]
    if isinstance(labels[0], str):
        return Fraction(sum(labels.count(told) ** 2 for told in set(labels)), len(labels))
    return sum(labels) ** 2 / len(labels)


def leaf(rows, classes):
    labels = [label for _, label in rows]
    if not classes:
        return "tell " + number_text(sum(labels) / len(labels))
    return "class " + max(classes, key=lambda told: (labels.count(told), -classes.index(told)))


def node(names, rows, classes, depth, least):
    """The rows of the tree that is grown as [78] tells it."""
    splits = []
    if depth > 0:
        for at in range(len(names)):
            numbers = sorted({given[at] for given, _ in rows})
            for bound in numbers[:-1]:
                low = [row for row in rows if row[0][at] <= bound]
                high = [row for row in rows if row[0][at] > bound]
                gain = worth(low) + worth(high) - worth(rows)
                if gain > 0 and min(len(low), len(high)) >= least:
                    splits.append((-gain, at, bound, low, high))
    if not splits:
        return [leaf(rows, classes)]
    _, at, bound, low, high = min(splits, key=lambda split: split[:3])
    return [f"ask {number_text(-bound)} {names[at]} 1", *node(names, low, classes, depth - 1, least), *node(names, high, classes, depth - 1, least)]


class GrowingTest(unittest.TestCase):
    def check(self, one, depth, least, expected=None):
        found = grown(one, depth, least)
        self.assertIs(type(found), Model)
        rows = node(one.features.names, rows_of(one), one.classes, depth, least)
        self.assertEqual(found.text, "\n".join([one.features.text, "tree " + found.names[0], *rows]))
        if expected is not None:
            self.assertEqual("\n".join(rows), expected)
        return found

    def test_depths(self):
        rows = [(number, label) for number, label in enumerate([0, 0, 8, 8, 4, 4, 9, 1])]
        one = table(X, *rows)
        self.check(one, 0, 1, "tell 17/4")
        self.check(one, 1, 1, "ask -1 x 1\ntell 0\ntell 17/3")
        depths = [self.check(one, depth, 1).switches for depth in range(5)]
        self.assertEqual(depths, [0, 1, 2, 3, 4])
        told = table(X, *[(number, label) for number, label in enumerate("aabbccab")])
        self.check(told, 0, 1, "class a")
        self.check(told, 1, 1, "ask -1 x 1\nclass a\nclass b")
        self.check(told, 2, 1, "ask -1 x 1\nclass a\nask -3 x 1\nclass b\nclass c")
        self.assertEqual(self.check(told, 4, 1).switches, 4)

    def test_equal_gains(self):
        # Of two features the earlier one; of several T the lesser one.
        self.check(table(PLANE, (0, 0, "a"), (1, 1, "b")), 4, 1, "ask 0 x 1\nclass a\nclass b")
        self.check(table("fraction y\nfraction x", (0, 0, "a"), (1, 1, "b")), 4, 1, "ask 0 y 1\nclass a\nclass b")
        self.check(table(PLANE, (0, 5, "a"), (0, 6, "b")), 4, 1, "ask -5 y 1\nclass a\nclass b")
        self.check(table(X, (0, "a"), (1, "b"), (2, "a")), 1, 1, "ask 0 x 1\nclass a\nclass a")
        self.check(table(X, (0, 1), (1, 0), (2, 1)), 1, 1, "ask 0 x 1\ntell 1\ntell 1/2")
        self.check(table(X, (3, "a"), (2, "b"), (1, "b"), (0, "a")), 1, 1, "ask 0 x 1\nclass a\nclass b")

    def test_no_gain_above_0(self):
        self.check(table(X, (0, "a"), (1, "a")), 4, 1, "class a")
        self.check(table(X, (0, 5), (1, 5), (2, 5)), 4, 1, "tell 5")
        # Each split leaves halves and halves.
        square = [(0, 0, "a"), (1, 1, "a"), (0, 1, "b"), (1, 0, "b")]
        self.check(table(PLANE, *square), 4, 1, "class a")
        self.check(table(PLANE, *[(x, y, 0 if label == "a" else 1) for x, y, label in square]), 4, 1, "tell 1/2")
        self.check(table(X, (0, 0)), 4, 1, "tell 0")

    def test_least(self):
        one = table(X, (0, "a"), (1, "b"), (2, "b"), (3, "b"), (4, "b"), (5, "c"))
        self.check(one, 1, 1, "ask 0 x 1\nclass a\nclass b")
        self.check(one, 1, 2, "ask -1 x 1\nclass a\nclass b")
        self.check(one, 1, 3, "ask -2 x 1\nclass b\nclass b")
        for least in (4, 5, 6, 7, 10 ** 50):
            self.check(one, 4, least, "class b")

    def test_equal_inputs_with_unlike_labels(self):
        self.check(table(X, (0, "a"), (0, "b"), (0, "b")), 4, 1, "class b")
        self.check(table(X, (0, 1), (0, 2), (1, 6), (1, 6)), 4, 1, "ask 0 x 1\ntell 3/2\ntell 6")

    def test_equally_many_rows_of_two_classes(self):
        # The earlier one of the table, also where it is not the earlier one of the branch.
        self.check(table(X, (5, "a"), (0, "b"), (0, "a")), 0, 1, "class a")
        self.check(table(X, (0, "b"), (5, "a"), (5, "b"), (5, "a"), (0, "b")), 1, 1, "ask 0 x 1\nclass b\nclass a")
        self.check(table(X, (9, "a"), (9, "a"), (9, "a"), (0, "b"), (0, "c"), (9, "c")), 1, 1, "ask 0 x 1\nclass b\nclass a")
        self.check(table(X, (9, "a"), (9, "a"), (9, "c"), (0, "b"), (0, "c"), (9, "a")), 1, 1, "ask 0 x 1\nclass c\nclass a")

    def test_the_order_of_nodes_in_the_text(self):
        one = table(PLANE, (0, 0, 0), (0, 1, 10), (1, 0, 100), (1, 1, 1000))
        self.check(one, 2, 1, "ask 0 x 1\nask 0 y 1\ntell 0\ntell 10\nask 0 y 1\ntell 100\ntell 1000")
        self.assertEqual(grown(one, 2, 1).text, PLANE + "\ntree learned\nask 0 x 1\nask 0 y 1\ntell 0\ntell 10\nask 0 y 1\ntell 100\ntell 1000")

    def test_fractions_yesnos_and_names(self):
        self.check(table("yesno u\nfraction x by 3", (0, Fraction(1, 3), "a"), (1, Fraction(-2, 3), "a"), (0, Fraction(-2, 3), "b")), 2, 1)
        self.check(table(X, (Fraction(-1, 2), Fraction(1, 3)), (Fraction(1, 7), Fraction(5, 3))), 1, 1, "ask 1/2 x 1\ntell 1/3\ntell 5/3")
        self.assertEqual(grown(table("fraction learned", (0, 1)), 0, 1).names, ("learneda",))
        self.assertEqual(grown(table(X, (0, 1)), 0, 1).names, ("learned",))

    def test_many_tables(self):
        rng = random.Random(601)
        for turn in range(120):
            features = [X, PLANE, "yesno u\nfraction x\nyesno v", "fraction x\nfraction y\nfraction z"][turn % 4]
            labels = [None, ["a", "b"], ["a", "b", "c", "d"]][turn % 3]
            one = random_table(rng, features, rng.randint(1, 14), labels, 1 + turn % 5)
            found = self.check(one, rng.randint(0, 4), rng.randint(1, 3))
            self.assertLessEqual(found.switches, 4)
        whole = random_table(rng, "fraction x\nfraction y\nyesno u", 60, None, 9)
        found = self.check(whole, 4, 1)
        self.check(random_table(rng, PLANE, 60, ["a", "b", "c"], 9), 4, 2)
        # Where all rows of a leaf have one label, the tree tells it.
        one = table(X, *[(number, number * number) for number in range(16)])
        found = self.check(one, 4, 1)
        told = [told_at(found.text, given) == label for given, label in rows_of(one)]
        self.assertGreater(sum(told), 8)

    def test_the_order_of_errors(self):
        empty, long = Table(Features(X), []), 10 ** 4000
        for one in (empty, table(X, (0, 1)), table(X, (0, long))):
            for depth in (*NO_NUMBERS, -1, 5, 10 ** 30, Ratio(1), Ratio(2)):
                for least in (1, 0, None):
                    check_raised(self, BadNumber, {"what": "depth", "number": depth}, grown, one, depth, least)
            for least in (*NO_NUMBERS, 0, -1, Ratio(1)):
                check_raised(self, BadNumber, {"what": "least", "number": least}, grown, one, 2, least)
        for depth in range(5):
            check_raised(self, NotFull, {"rank": 0}, grown, empty, depth, 1)

    def test_numbers_that_are_too_long(self):
        long = 10 ** 4000
        self.assertEqual(grown(table(X, (0, long - 1)), 0, 1).text, X + f"\ntree learned\ntell {'9' * 4000}")
        check_raised(self, TooLong, {"digits": 4001}, grown, table(X, (0, long)), 0, 1)
        # A mean of 4,001 digits below the line, of labels of fewer digits each.
        for power, size in [(8379, 3999), (8381, 4000), (8382, 4000), (8383, 4001)]:
            self.assertEqual((self.digits(3 ** power) <= 4000, self.digits(3 ** (power + 1))), (True, size))
            one = Table(Features(X), [((0,), Ratio(1, 3 ** power)), ((0,), 0), ((0,), 0)])
            if size > 4000:
                check_raised(self, TooLong, {"digits": size}, grown, one, 0, 1)
            else:
                self.assertEqual(grown(one, 0, 1).switches, 0)
        # The first number of the text: T ahead of the means, the first branch ahead of the second one.
        rows = [(-10 * long, 100 * long), (5, long)]
        check_raised(self, TooLong, {"digits": 4002}, grown, table(X, *rows), 1, 1)
        check_raised(self, TooLong, {"digits": 4003}, grown, table(X, (1, 100 * long), (5, long)), 1, 1)

    def digits(self, number):
        digits = 3900
        while 10 ** digits <= number:
            digits += 1
        return digits


if __name__ == "__main__":
    unittest.main()
