import random
import unittest
from fractions import Fraction

from checking import NO_NUMBERS, check_raised, check_ratio, check_tuple_of_ratios, fractions, ratio
from hingeworks.errors import BadNumber, TooMany, Unlike
from hingeworks.fences import Fence, Ring, Widest, fence, laid_out, widest_fence
from hingeworks.ratios import Ratio
from learning import SIX, added, product, random_table, rows_of, signed, subsets, table
from test_perceptrons import UNLIKE

X = "fraction x"
PLANE = "fraction x\nfraction y"
HALF = Fraction(1, 2)
# Rows in no order of which there is a fence, and why.
RINGS = [
    table(X, (1, "a"), (1, "b")), table(X, (0, "a"), (1, "b"), (2, "a")), table(X, (0, "a"), (3, "b"), (1, "a"), (HALF, "b")),
    table(PLANE, (0, 0, "a"), (1, 1, "a"), (0, 1, "b"), (1, 0, "b")), table(PLANE, (0, 0, "a"), (3, 0, "a"), (0, 3, "a"), (1, 1, "b")),
    table("yesno u\nyesno v", (0, 0, "a"), (1, 1, "a"), (0, 1, "b"), (1, 0, "b")), table(X, (5, "a"), (5, "a"), (5, "b"), (7, "b")),
]
FENCES = [
    table(X, (0, "a"), (1, "b")), table(X, (1, "a"), (0, "b")), table(X, (0, "a"), (0, "a"), (Fraction(1, 10 ** 30), "b")),
    table(PLANE, (0, 0, "a"), (1, 1, "b"), (0, 1, "a"), (1, 0, "a")), table("yesno u\nfraction x by 5", (0, 3, "b"), (1, 3, "a"), (1, 9, "a")),
    table(X, (5, "a"), (4, "a"), (6, "b"), (7, "b")), table(PLANE, (2, 1, "a"), (2, 2, "b"), (4, 2, "a"), (4, 3, "b")),
]


def is_ring(one, counts):
    total = tuple([Fraction(0)] * (len(one.features.names) + 1))
    for count, row in zip(counts, signed(rows_of(one))):
        total = added(total, [count * item for item in row])
    return not any(total) and any(counts) and all(type(count) is int and count >= 0 for count in counts)


class FenceTest(unittest.TestCase):
    def check(self, one):
        """Whether there is a fence; what is returned is judged by adding up."""
        found = fence(one)
        if isinstance(found, Fence):
            check_tuple_of_ratios(self, found.weights, len(one.features.names) + 1)
            self.assertTrue(all(product(fractions(found.weights), row) > 0 for row in signed(rows_of(one))))
            return True
        self.assertIs(type(found), Ring)
        self.assertEqual((type(found.counts), len(found.counts)), (tuple, len(one.rows)))
        self.assertTrue(is_ring(one, found.counts))
        return False

    def test_tables_with_a_fence_and_without(self):
        for one in FENCES:
            self.assertTrue(self.check(one))
        for one in RINGS:
            self.assertFalse(self.check(one))

    def test_one_input_with_both_classes(self):
        found = fence(table(X, (1, "a"), (5, "b"), (1, "b")))
        self.assertEqual(found.counts[1], 0)
        self.assertEqual(found.counts[0], found.counts[2])

    def test_an_input_between_two_others(self):
        found = fence(table(X, (0, "a"), (1, "b"), (3, "a")))
        self.assertEqual((found.counts[0] * 3, found.counts[2] * 3), (found.counts[1] * 2, found.counts[1]))

    def test_many_tables(self):
        rng = random.Random(581)
        kinds = {True: 0, False: 0}
        for turn in range(120):
            features = [X, PLANE, "fraction x\nyesno u", SIX][turn % 4]
            one = random_table(rng, features, rng.randint(2, 10), ["a", "b"], 2 + 3 * (turn % 3))
            if len(one.classes) == 2:
                kinds[self.check(one)] += 1
        self.assertGreater(min(kinds.values()), 25)

    def test_two_classes(self):
        for one in UNLIKE:
            check_raised(self, Unlike, {"what": "classes"}, fence, one)

    def test_the_objects(self):
        self.assertEqual(fractions(Fence([1, Ratio(1, 2)]).weights), (1, HALF))
        counts = [1, 0, 2]
        ring = Ring(counts)
        counts[0] = 7
        self.assertEqual(ring.counts, (1, 0, 2))


class LaidOutTest(unittest.TestCase):
    def check(self, one, counts):
        """Each step is an error, each row is as often as the ring tells, and the end is at zeros."""
        order = laid_out(one, counts)
        self.assertEqual((type(order), len(order)), (tuple, sum(counts)))
        self.assertEqual([order.count(number) for number in range(len(counts))], list(counts))
        rows = signed(rows_of(one))
        weights = tuple([Fraction(0)] * len(rows[0]))
        for number in order:
            self.assertIs(type(number), int)
            self.assertLessEqual(product(weights, rows[number]), 0)
            weights = added(weights, rows[number])
        self.assertFalse(any(weights))

    def test_rings(self):
        for one in RINGS:
            counts = fence(one).counts
            self.check(one, counts)
            self.check(one, list(counts))
            self.check(one, [count * 7 for count in counts])
        self.check(RINGS[1], [1, 2, 1])
        self.check(RINGS[3], [1, 1, 1, 1])
        self.check(RINGS[6], [0, 3, 3, 0])
        self.check(RINGS[6], [2, 1, 3, 0])

    def test_many_rings(self):
        rng = random.Random(582)
        many = 0
        while many < 30:
            one = random_table(rng, [X, PLANE][many % 2], rng.randint(3, 9), ["a", "b"], 3)
            found = fence(one) if len(one.classes) == 2 else None
            if isinstance(found, Ring) and sum(found.counts) <= 1000:
                many += 1
                self.check(one, list(found.counts))
                self.check(one, [count * 2 for count in found.counts])

    def test_rings_that_are_none(self):
        one = RINGS[1]
        wrong = [[], [1, 2], [1, 2, 1, 0], (), None, "121", 0, {}, [0, 0, 0], (0, 0, 0), [-1, -2, -1], [1, 2, 2], [1, 1, 1], [0, 2, 1], [1, 2, -1],
                 [2, 2, 0], [1, Ratio(2), 1], [1, 2, True], [True, 2, True]]
        wrong += [[1, item, 1] for item in NO_NUMBERS] + [[1000, 2001, 1000], [2000, 4000, 2001]]
        for counts in wrong:
            check_raised(self, BadNumber, {"what": "counts", "number": counts}, laid_out, one, counts)
        for counts in ([1, 1], [0, 0], [2, 1]):
            check_raised(self, BadNumber, {"what": "counts", "number": counts}, laid_out, FENCES[0], counts)

    def test_two_thousand_steps(self):
        self.check(RINGS[1], [500, 1000, 500])
        self.check(RINGS[0], (1000, 1000))
        check_raised(self, TooMany, {"what": "steps", "many": 2004, "limit": 2000}, laid_out, RINGS[1], [501, 1002, 501])
        one = table(X, (0, "a"), (1, "b"), (2, "a"), (0, "b"))
        self.check(one, [1000, 0, 0, 1000])
        check_raised(self, TooMany, {"what": "steps", "many": 2002, "limit": 2000}, laid_out, RINGS[0], [1001, 1001])
        check_raised(self, TooMany, {"what": "steps", "many": 2002, "limit": 2000}, laid_out, one, [1001, 0, 0, 1001])
        check_raised(self, TooMany, {"what": "steps", "many": 2 * 10 ** 30, "limit": 2000}, laid_out, RINGS[0], [10 ** 30, 10 ** 30])

    def test_2001_steps(self):
        one = table(X, (0, "a"), (1, "b"), (3, "a"))
        self.check(one, [2 * 333, 3 * 333, 333])
        check_raised(self, TooMany, {"what": "steps", "many": 2004, "limit": 2000}, laid_out, one, [2 * 334, 3 * 334, 334])
        # The ring of an odd sum: five rows of which one stands once.
        odd = table("fraction x\nfraction y", (0, 0, "a"), (0, 0, "b"), (3, 0, "a"), (0, 3, "a"), (1, 1, "b"))
        self.check(odd, [1 + 996, 996, 1, 1, 3])
        check_raised(self, TooMany, {"what": "steps", "many": 2006, "limit": 2000}, laid_out, odd, [1001, 1000, 1, 1, 3])

    def test_two_classes(self):
        for one in UNLIKE:
            for counts in ([1, 2, 1], None, [10 ** 9]):
                check_raised(self, Unlike, {"what": "classes"}, laid_out, one, counts)


class WidestTest(unittest.TestCase):
    def check(self, one):
        """The widest fence by the shares of the document's fact, or a ring."""
        found = widest_fence(one)
        if isinstance(found, Ring):
            self.assertTrue(is_ring(one, found.counts))
            return None
        self.assertIs(type(found), Widest)
        rows = signed(rows_of(one))
        check_tuple_of_ratios(self, found.weights, len(rows[0]))
        check_tuple_of_ratios(self, found.shares, len(rows))
        weights, shares = fractions(found.weights), fractions(found.shares)
        products = [product(weights, row) for row in rows]
        self.assertEqual(min(products), 1)
        self.assertTrue(all(share >= 0 and (share == 0 or worth == 1) for share, worth in zip(shares, products)))
        total = tuple([Fraction(0)] * len(rows[0]))
        for share, row in zip(shares, rows):
            total = added(total, [share * item for item in row])
        self.assertEqual(total, (0, *weights[1:]))
        check_ratio(self, found.square, 1 / product(weights[1:], weights[1:]))
        return weights

    def test_fences(self):
        for one, weights in [
            (table(X, (0, "a"), (1, "b")), (-1, 2)), (table(X, (1, "a"), (0, "b")), (1, -2)), (table(X, (-1, "a"), (1, "b"), (5, "b"), (-9, "a")), (0, 1)),
            (table(PLANE, (0, 0, "a"), (0, 2, "b")), (-1, 0, 1)), (table(PLANE, (0, 0, "a"), (0, 2, "b"), (2, 2, "b"), (2, 0, "a")), (-1, 0, 1)),
            (table(PLANE, (0, 0, "a"), (1, 1, "b")), (-1, 1, 1)), (table(PLANE, (0, 0, "a"), (2, 0, "b"), (0, 2, "b")), (-1, 1, 1)),
            (table(PLANE, (0, 0, "a"), (2, 1, "b"), (2, -1, "b"), (9, 0, "b")), (-1, 1, 0)), (table("yesno u", (0, "b"), (1, "a")), (-1, 2)),
        ]:
            self.assertEqual(self.check(one), weights)
        self.assertEqual(widest_fence(table(X, (0, "a"), (3, "b"))).square, Ratio(9, 4))
        self.assertEqual(widest_fence(table(PLANE, (0, 0, "a"), (1, 1, "b"))).square, Ratio(1, 2))

    def test_units_and_ranges_play_no_part(self):
        rows = [(0, 0, "a"), (3, 1, "b"), (2, 2, "b")]
        self.assertEqual(self.check(table(PLANE, *rows)), self.check(table("fraction x from 0 to 9 by 7\nfraction y by 1/2", *rows)))

    def test_rows_on_the_rim_several_times(self):
        for rows in ([(0, "a"), (0, "a"), (1, "b"), (1, "b"), (1, "b")], [(0, "a"), (1, "b"), (0, "a")]):
            self.assertEqual(self.check(table(X, *rows)), (-1, 2))
        corners = [(x, y, "a" if x == 0 else "b") for x in (0, 2) for y in (0, 1, 2)]
        self.assertEqual(self.check(table(PLANE, *corners, *corners[:4])), (-1, 1, 0))

    def test_no_fence(self):
        for one in RINGS:
            self.assertIsNone(self.check(one))
        for one in FENCES:
            self.assertIsNotNone(self.check(one))

    def test_many_tables(self):
        rng = random.Random(583)
        kinds = {True: 0, False: 0}
        for turn in range(120):
            features = [X, PLANE, "fraction x\nfraction y\nfraction z", SIX][turn % 4]
            one = random_table(rng, features, rng.randint(2, 10), ["a", "b"], 3 + 5 * (turn % 3))
            if len(one.classes) == 2:
                kinds[self.check(one) is None] += 1
        self.assertGreater(min(kinds.values()), 25)

    def test_rows_that_depend_on_one_another(self):
        # On the way to the widest fence some rows are tried whose signed rows are not independent.
        rows = [(0, 3, 0, "a"), (0, 0, 1, "b"), (2, 1, 1, "a"), (0, 1, 1, "b"), (2, 1, 0, "a"), (3, 0, 1, "b"), (2, 0, 2, "b"), (2, 2, 2, "b")]
        self.assertIsNotNone(self.check(table("fraction x\nfraction y\nfraction z", *rows)))
        rng = random.Random(586)
        found = []
        for _ in range(150):
            rows = [(*[rng.randint(0, 2) for _ in range(3)], rng.choice("ab")) for _ in range(rng.randint(4, 9))]
            if len({row[-1] for row in rows}) == 2:
                found.append(self.check(table("fraction x\nfraction y\nfraction z", *rows)) is None)
        self.assertGreater(min(found.count(True), found.count(False)), 25)

    def test_it_is_the_widest(self):
        rng = random.Random(584)
        for turn in range(30):
            one = random_table(rng, PLANE, rng.randint(2, 6), ["a", "b"], 5)
            if len(one.classes) == 2 and isinstance(fence(one), Fence):
                square = widest_fence(one).square
                for part in subsets(len(one.rows)):
                    fewer = one.taken_out(part)
                    if len(fewer.classes) == 2:
                        self.assertTrue(square.at_most(widest_fence(fewer).square))
                other = fractions(fence(one).weights)
                least = min(product(other, row) for row in signed(rows_of(one)))
                self.assertTrue(ratio(least ** 2 / product(other[1:], other[1:])).at_most(square))

    def test_ten_rows_and_eleven(self):
        rows = [(number, "a" if number < 5 else "b") for number in range(10)]
        self.assertEqual(self.check(table(X, *rows)), (-9, 2))
        for more in ((10, "b"), (0, "b")):
            check_raised(self, TooMany, {"what": "rows", "many": 11, "limit": 10}, widest_fence, table(X, *rows, more))
        check_raised(self, TooMany, {"what": "rows", "many": 60, "limit": 10}, widest_fence, table(X, *rows * 6))
        for one in (*UNLIKE, table(X, *[(0, "a")] * 11), table(X, *[(0, "abc"[number % 3]) for number in range(11)])):
            check_raised(self, Unlike, {"what": "classes"}, widest_fence, one)

    def test_long_numbers(self):
        rng = random.Random(585)
        rows = [(*[rng.randint(-10 ** 40, 10 ** 40) for _ in range(6)], "ab"[number % 2]) for number in range(10)]
        self.check(table(SIX, *rows))
        rows = [(*[Fraction(rng.randint(-10 ** 6, 10 ** 6), rng.randint(1, 10 ** 6)) for _ in range(3)], "ab"[number % 2]) for number in range(5)]
        self.check(table("fraction x\nfraction y\nfraction z", *rows))


if __name__ == "__main__":
    unittest.main()
