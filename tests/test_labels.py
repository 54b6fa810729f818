import random
import unittest
from fractions import Fraction
from itertools import product as choices

from checking import NO_NUMBERS, check_raised, check_ratio, check_tuple_of_ratios, fraction, fractions, ratio
from hingeworks.errors import BadGiven, BadNumber, NotFull, TooLarge, TooLong, Unlike
from hingeworks.features import Features
from hingeworks.labels import Extent, Turning, extent, fewest_classes, fewest_labels, label_shares
from hingeworks.ratios import Ratio
from hingeworks.squares import least_squares
from hingeworks.tables import Table
from hingeworks.working import worked
from learning import near_class, product, random_given, random_number, random_table, rank, rows_of, square_line, subsets, table

X = "fraction x"
PLANE = "fraction x\nfraction y"
HALF = Fraction(1, 2)
EMPTY = Table(Features(X), [])
LINE = table(X, (0, 1), (1, 3), (2, 2))
CLASSES = table(X, (0, "a"), (1, "b"), (2, "a"))


def score(rows, given, pull):
    """What the least square line of rows tells, worked out with Fractions."""
    line = square_line(rows, pull)
    return None if line is None else line[0] + product(line[1:], given)


def as_ratios(items):
    return tuple(ratio(item) for item in items)


class SharesTest(unittest.TestCase):
    def check(self, one, given, pull=0):
        """The shares, by putting other labels in."""
        found = label_shares(one, as_ratios(given), ratio(pull))
        rows = rows_of(one)
        check_tuple_of_ratios(self, found, len(rows))
        shares = fractions(found)
        for labels in ([label for _, label in rows], [label * 3 - 1 for _, label in rows], *[[0] * at + [1] + [0] * (len(rows) - at - 1) for at in range(len(rows))]):
            put_in = [(row, Fraction(label)) for (row, _), label in zip(rows, labels)]
            self.assertEqual(product(shares, labels), score(put_in, given, pull))
        # With equal inputs the shares are equal.
        for one_row, one_share in zip(rows, shares):
            self.assertTrue(all(share == one_share for (row, _), share in zip(rows, shares) if row == one_row[0]))
        return shares

    def test_shares(self):
        self.assertEqual(self.check(table(X, (0, 5), (1, 9)), [0]), (1, 0))
        self.assertEqual(self.check(table(X, (0, 5), (1, 9)), [3]), (-2, 3))
        self.assertEqual(self.check(LINE, [1]), (Fraction(1, 3),) * 3)
        self.assertEqual(self.check(table(X, (0, 5), (0, 1), (1, 9)), [0]), (HALF, HALF, 0))
        self.assertEqual(self.check(table(X, (0, 5)), [7], 1), (1,))
        self.assertEqual(self.check(table(X, (-1, 5), (1, 2)), [5], 2), (Fraction(-3, 4), Fraction(7, 4)))

    def test_it_is_what_the_line_tells(self):
        told = worked(least_squares(LINE), (Ratio(5),)).told
        self.assertEqual(fraction(told), product(self.check(LINE, [5]), [1, 3, 2]))

    def test_many_tables(self):
        rng = random.Random(621)
        full = 0
        for turn in range(80):
            features = [X, PLANE, "yesno u\nfraction x"][turn % 3]
            one = random_table(rng, features, rng.randint(1, 7), None, 2)
            given, pull = random_given(rng, features), rng.choice([0, 0, 1, Fraction(1, 3)])
            if square_line(rows_of(one), pull) is None:
                many = rank([(1, *row) for row, _ in rows_of(one)])
                check_raised(self, NotFull, {"rank": many}, label_shares, one, as_ratios(given), ratio(pull))
            else:
                full += 1
                self.check(one, given, pull)
        self.assertGreater(full, 40)

    def test_integers_and_pulls_left_out(self):
        self.assertEqual(label_shares(LINE, (1,)), label_shares(LINE, (Ratio(1),), Ratio(0)))

    def test_numbers_of_any_length(self):
        long = 10 ** 4500
        one = table(X, (0, long), (Fraction(1, long), 7), (3, -long))
        self.assertEqual(sum(self.check(one, [5])), 1)
        self.assertEqual(extent(one, (5,), (0, 0, -long), (long, 7, 0)).least_labels[1].bottom, 1)

    def test_the_order_of_errors(self):
        single = table(X, (0, 1))
        for one in (EMPTY, CLASSES):
            for given, pull in [((0,), 0), (None, -1), ((0, 0), None)]:
                check_raised(self, Unlike, {"what": "kind"}, label_shares, one, given, pull)
        for given in (None, 0, (), (0, 0), [0], (True,), (1.0,), "0", ((0,),)):
            for pull in (0, -1, None):
                check_raised(self, BadGiven, {"what": "given"}, label_shares, single, given, pull)
        check_raised(self, BadGiven, {"what": "given"}, label_shares, table(X + " to 1", (0, 1)), (2,))
        for pull in (-1, Ratio(-1, 9), *NO_NUMBERS):
            check_raised(self, BadNumber, {"what": "pull", "number": pull}, label_shares, single, (0,), pull)
        check_raised(self, NotFull, {"rank": 1}, label_shares, single, (0,))
        check_raised(self, NotFull, {"rank": 2}, label_shares, table(PLANE, (0, 0, 1), (1, 1, 1), (2, 2, 1)), (0, 0))


class ExtentTest(unittest.TestCase):
    def check(self, one, given, lows, highs, pull=0):
        """The least and the greatest score, also that all corners of the bounds lie between them."""
        found = extent(one, as_ratios(given), as_ratios(lows), as_ratios(highs), ratio(pull))
        self.assertIs(type(found), Extent)
        rows = rows_of(one)
        for labels, reached in [(found.least_labels, found.least), (found.greatest_labels, found.greatest)]:
            check_tuple_of_ratios(self, labels, len(rows))
            self.assertTrue(all(low <= label <= high for low, label, high in zip(lows, fractions(labels), highs)))
            check_ratio(self, reached, score([(row, label) for (row, _), label in zip(rows, fractions(labels))], given, pull))
        for labels in choices(*zip(lows, highs)):
            told = score([(row, Fraction(label)) for (row, _), label in zip(rows, labels)], given, pull)
            self.assertTrue(fraction(found.least) <= told <= fraction(found.greatest))
        shares = fractions(label_shares(one, as_ratios(given), ratio(pull)))
        for share, (_, label), low, high, least, greatest in zip(shares, rows, lows, highs, fractions(found.least_labels), fractions(found.greatest_labels)):
            expected = (label, label) if share == 0 else ((low, high) if share > 0 else (high, low))
            self.assertEqual((least, greatest), expected)
        return fraction(found.least), fraction(found.greatest)

    def test_extents(self):
        self.assertEqual(self.check(LINE, [1], [0, 0, 0], [3, 3, 3]), (0, 3))
        self.assertEqual(self.check(table(X, (0, 5), (1, 9)), [3], [4, 8], [6, 10]), (12, 22))
        self.assertEqual(self.check(table(X, (0, 5), (1, 9)), [3], [5, 9], [5, 9]), (17, 17))
        # A share that is 0.
        self.assertEqual(self.check(table(X, (0, 5), (1, 9)), [0], [4, 0], [6, 100]), (4, 6))
        self.assertEqual(self.check(table(X, (-1, 5), (1, 2)), [5], [4, 2], [5, 3], 2), (Fraction(-1, 4), Fraction(9, 4)))

    def test_many_tables(self):
        rng = random.Random(622)
        for turn in range(40):
            features = [X, PLANE][turn % 2]
            one = random_table(rng, features, rng.randint(1, 5), None, 2)
            pull = rng.choice([0, 1, Fraction(1, 3)])
            if square_line(rows_of(one), pull) is not None:
                lows = [label - abs(random_number(rng)) * rng.randint(0, 1) for _, label in rows_of(one)]
                highs = [label + abs(random_number(rng)) * rng.randint(0, 1) for _, label in rows_of(one)]
                self.check(one, random_given(rng, features), lows, highs, pull)

    def test_lists_of_bounds(self):
        one, other = extent(LINE, (1,), [0, 0, 0], [3, 3, 3]), extent(LINE, (1,), (0, Ratio(0), 0), (3, 3, Ratio(3)), 0)
        self.assertEqual((one.least, one.greatest, one.least_labels), (other.least, other.greatest, other.least_labels))


class FewestLabelsTest(unittest.TestCase):
    def check(self, one, given, bound, lows, highs, pull=0):
        """The rows; fewer rows do not turn the verdict, whichever they are."""
        found = fewest_labels(one, as_ratios(given), ratio(bound), as_ratios(lows), as_ratios(highs), ratio(pull))
        rows = rows_of(one)
        labels = [label for _, label in rows]
        shares = fractions(label_shares(one, as_ratios(given), ratio(pull)))
        verdict = product(shares, labels) >= bound
        turning = [part for part in subsets(len(rows)) if self.turns(shares, labels, lows, highs, part, bound, verdict)]
        if found is None:
            self.assertEqual(turning, [])
            return None
        self.assertIs(type(found), Turning)
        self.assertEqual((type(found.rows), list(found.rows)), (tuple, sorted(set(found.rows))))
        self.assertEqual(len(found.rows), len(turning[0]))
        check_tuple_of_ratios(self, found.labels, len(rows))
        fresh = fractions(found.labels)
        self.assertTrue(all(low <= label <= high for low, label, high in zip(lows, fresh, highs)))
        self.assertEqual([at for at in range(len(rows)) if fresh[at] != labels[at]], list(found.rows))
        told = score([(row, label) for (row, _), label in zip(rows, fresh)], given, pull)
        self.assertNotEqual(told >= bound, verdict)
        return found.rows

    def turns(self, shares, labels, lows, highs, part, bound, verdict):
        best = Fraction(0)
        for at, (share, label) in enumerate(zip(shares, labels)):
            ends = [share * lows[at], share * highs[at], share * label] if at in part else [share * label]
            best += min(ends) if verdict else max(ends)
        return (best >= bound) != verdict

    def test_verdicts_at_just_above_and_just_below_the_ratio(self):
        lows, highs, tiny = [0, 0, 0], [3, 3, 3], Fraction(1, 10 ** 30)
        # The score at 1 is 2, and each label has a third of it.
        for bound, expected in [(2, 1), (2 - tiny, 1), (2 + tiny, 1), (Fraction(5, 3), 1), (Fraction(8, 3), 1), (Fraction(8, 3) + tiny, 2), (1, 2), (1 + tiny, 1),
                                (3, 2), (3 + tiny, None), (0, None), (tiny, 3), (-1, None), (4, None)]:
            found = self.check(LINE, [1], bound, lows, highs)
            self.assertEqual(None if found is None else len(found), expected, bound)

    def test_no_set_one_row_and_several(self):
        one = table(X, (0, 5), (1, 9))
        self.assertEqual(self.check(one, [3], 17, [5, 9], [5, 9]), None)
        self.assertEqual(self.check(one, [3], 17, [5, 8], [6, 9]), (1,))
        self.assertEqual(self.check(one, [3], 13, [5, 8], [7, 9]), (0, 1))
        self.assertEqual(self.check(one, [0], 5, [5, 0], [5, 10]), None)
        self.assertEqual(self.check(one, [0], 5, [0, 0], [5, 10]), (0,))
        self.assertEqual(self.check(one, [0], 6, [0, 0], [6, 10]), (0,))
        self.assertEqual(self.check(one, [0], 7, [0, 0], [6, 10]), None)

    def test_many_tables(self):
        rng = random.Random(623)
        sizes = {}
        for turn in range(120):
            features = [X, PLANE][turn % 2]
            one = random_table(rng, features, rng.randint(1, 6), None, 3)
            pull = rng.choice([0, 1, Fraction(1, 3)])
            if square_line(rows_of(one), pull) is not None:
                lows = [label - rng.randint(0, 2) for _, label in rows_of(one)]
                highs = [label + rng.randint(0, 2) for _, label in rows_of(one)]
                given = random_given(rng, features)
                bound = score(rows_of(one), given, pull) + rng.choice([0, Fraction(rng.randint(-8, 8), 2), rng.randint(-3, 3)])
                found = self.check(one, given, bound, lows, highs, pull)
                size = None if found is None else len(found)
                sizes[size] = sizes.get(size, 0) + 1
        self.assertGreater(min(sizes.get(size, 0) for size in (None, 1, 2)), 5, sizes)
        self.assertIn(3, sizes)

    def test_the_order_of_errors(self):
        ends, single = ((0,), (2,)), table(X, (0, 1))
        for one in (EMPTY, CLASSES):
            for call in (lambda: fewest_labels(one, None, None, None, None, None), lambda: extent(one, None, None, None, None)):
                check_raised(self, Unlike, {"what": "kind"}, call)
        for given in (None, (0, 0), [0], "0"):
            check_raised(self, BadGiven, {"what": "given"}, fewest_labels, single, given, None, None, None, None)
            check_raised(self, BadGiven, {"what": "given"}, extent, single, given, None, None, -1)
        for number in NO_NUMBERS:
            check_raised(self, BadNumber, {"what": "ratio", "number": number}, fewest_labels, single, (0,), number, None, None, -1)
        for number in (*NO_NUMBERS, -1, Ratio(-1, 2)):
            check_raised(self, BadNumber, {"what": "pull", "number": number}, fewest_labels, single, (0,), 0, None, None, number)
            check_raised(self, BadNumber, {"what": "pull", "number": number}, extent, single, (0,), None, None, number)
        check_raised(self, NotFull, {"rank": 1}, fewest_labels, single, (0,), 0, *ends)
        check_raised(self, NotFull, {"rank": 1}, extent, single, (0,), *ends)

    def test_wrong_bounds(self):
        same = table(X, (1, 1), (1, 3), (1, 2))
        for one in (LINE, same):
            calls = [lambda lows, highs: extent(one, (1,), lows, highs), lambda lows, highs: fewest_labels(one, (1,), 2, lows, highs)]
            for call in calls:
                for lows, highs in [((0, 0), (3, 3, 3)), ((0, 0, 0), (3, 3)), ((), ()), ((0, 0, 0, 0), (9, 9, 9)), ((9, 9), (9, 9, 9)), (None, (3, 3, 3)),
                                    ((0, 0, 0), None), ((9, 9, 9), (3, 3, 3, 3)), (0, 3), ("000", "33")]:
                    check_raised(self, BadNumber, {"what": "bounds", "number": 3}, call, lows, highs)
                for lows, highs, place in [((2, 0, 0), (3, 3, 3), 0), ((0, 0, 0), (3, 2, 1), 1), ((0, 0, 3), (3, 3, 9), 2), ((0, None, None), (3, 3, 3), 1),
                                           ((0, 0, 0), (3, 3, True), 2), ((0, 0, 0), (Ratio(999, 1000), 3, 3), 0), ((1, 3, Ratio(2001, 1000)), (1, 3, 5), 2),
                                           ((0, 5, None), (3, 9, 3), 1)]:
                    check_raised(self, BadNumber, {"what": "bounds", "number": place}, call, lows, highs)
                for item in NO_NUMBERS:
                    check_raised(self, BadNumber, {"what": "bounds", "number": 1}, call, (0, item, 9), (3, 3, 3))
                    check_raised(self, BadNumber, {"what": "bounds", "number": 1}, call, (0, 0, 9), (3, item, 3))
                if one is same:
                    check_raised(self, NotFull, {"rank": 1}, call, (1, 3, 2), (1, 3, 2))

    def test_arguments_stay_as_they_were(self):
        lows, highs = [0, 0, 0], [3, 3, 3]
        first = fewest_labels(LINE, (1,), 1, lows, highs)
        self.assertEqual((lows, highs), ([0, 0, 0], [3, 3, 3]))
        again = fewest_labels(LINE, (1,), 1, lows, highs)
        self.assertEqual((first.rows, first.labels), (again.rows, again.labels))


class FewestClassesTest(unittest.TestCase):
    def check(self, one, given, many):
        """The rows; no smaller set turns the verdict, by trying all classes for it."""
        found = fewest_classes(one, as_ratios(given), many)
        features, rows = one.features.text, rows_of(one)
        verdict = near_class(features, rows, given, many)
        turning = None
        for part in subsets(len(rows)):
            if len(part) <= 2 and turning is None:
                for told in choices(one.classes, repeat=len(part)):
                    fresh = dict(zip(part, told))
                    other = [(row, fresh.get(at, label)) for at, (row, label) in enumerate(rows)]
                    if near_class(features, other, given, many) != verdict:
                        turning = part
                        break
        if found is None:
            self.assertIsNone(turning)
            return None
        self.assertIs(type(found), Turning)
        self.assertEqual((type(found.rows), type(found.labels)), (tuple, tuple))
        self.assertEqual(len(found.rows), len(turning))
        self.assertEqual([at for at in range(len(rows)) if found.labels[at] != rows[at][1]], list(found.rows))
        self.assertTrue(all(label in one.classes for label in found.labels))
        other = Table(one.features, [(row, label) for (row, _), label in zip(one.rows, found.labels)])
        self.assertNotEqual(near_class(features, rows_of(other), given, many), verdict)
        self.assertNotEqual(worked(other.neighbours(many), as_ratios(given)).told, worked(one.neighbours(many), as_ratios(given)).told)
        return found.rows

    def test_one_class_alone(self):
        for many in (1, 2, 3):
            self.assertIsNone(self.check(table(X, (0, "a"), (1, "a"), (5, "a")), [0], many))

    def test_one_and_two_rows(self):
        one = table(X, (0, "a"), (1, "a"), (2, "a"), (9, "b"))
        self.assertEqual(self.check(one, [0], 1), (0,))
        self.assertEqual(len(self.check(one, [0], 3)), 2)
        # Equal votes go to the class whose row comes first: the first row alone is enough, b stands first then.
        self.assertEqual(self.check(one, [0], 2), (0,))
        self.assertEqual(len(self.check(table(X, (9, "a"), (0, "a"), (1, "a"), (8, "b")), [0], 2)), 2)

    def test_equal_votes(self):
        # The first row, far away, tells which class comes first.
        one = table(X, (9, "a"), (0, "a"), (1, "b"))
        self.assertEqual(len(self.check(one, [0], 2)), 1)
        one = table(X, (99, "a"), (0, "a"), (1, "b"), (2, "c"), (50, "b"))
        self.assertEqual(len(self.check(one, [0], 3)), 1)

    def test_many_tables(self):
        rng = random.Random(624)
        sizes = {}
        for turn in range(150):
            features = ["fraction x by 2\nfraction y", "yesno u by 1/2\nfraction x", X][turn % 3]
            one = random_table(rng, features, rng.randint(3, 7), [["a", "b"], ["a", "b", "c"], ["a", "a", "a", "a", "b"]][turn % 3], 3)
            found = self.check(one, random_given(rng, features), rng.randint(1, 3))
            size = None if found is None else len(found)
            sizes[size] = sizes.get(size, 0) + 1
        self.assertGreater(min(sizes.get(size, 0) for size in (None, 1, 2)), 3)

    def test_the_order_of_errors(self):
        for one in (EMPTY, LINE):
            for given, many in [((0,), 1), (None, 0), ((0,), None)]:
                check_raised(self, Unlike, {"what": "kind"}, fewest_classes, one, given, many)
        few = table(X, (10 ** 4000, "a"))
        for given in (None, [0], (0, 0), ("0",)):
            for many in (1, 0):
                check_raised(self, BadGiven, {"what": "given"}, fewest_classes, few, given, many)
        for many in (*NO_NUMBERS, 0, 4, Ratio(1)):
            check_raised(self, BadNumber, {"what": "many", "number": many}, fewest_classes, few, (0,), many)
        check_raised(self, TooLarge, {"what": "neighbours", "many": 2, "limit": 1}, fewest_classes, few, (0,), 2)
        check_raised(self, TooLong, {"digits": 4001}, fewest_classes, few, (0,), 1)
        for many, switches in [(1, 59), (2, 117), (3, 174)]:
            check_raised(self, TooLarge, {"what": "switches", "many": switches, "limit": 40}, fewest_classes, table(X, *[(0, "a")] * 60), (0,), many)
        self.assertEqual(fewest_classes(table(X, *[(number, "ab"[number % 2]) for number in range(41)]), (7,), 1).rows, (7,))


if __name__ == "__main__":
    unittest.main()
