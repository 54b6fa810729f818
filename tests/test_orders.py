import random
import unittest
from fractions import Fraction

from checking import check_raised, check_tuple_of_ratios, fractions
from hingeworks.errors import TooMany, Unlike
from hingeworks.fences import Fence, fence
from hingeworks.orders import Endless, Most, most_errors
from learning import added, product, random_table, rows_of, signed, table
from test_fences import FENCES, RINGS
from test_perceptrons import UNLIKE

X = "fraction x"
PLANE = "fraction x\nfraction y"


def reached(one, limit):
    """The set of all weights that can be reached, or more than the limit of them."""
    rows = signed(rows_of(one))
    zeros = tuple([Fraction(0)] * len(rows[0]))
    found = {zeros}
    waiting = [zeros]
    while waiting and len(found) <= limit:
        weights = waiting.pop()
        for row in rows:
            if product(weights, row) <= 0 and added(weights, row) not in found:
                found.add(added(weights, row))
                waiting.append(added(weights, row))
    return found


class OrdersTest(unittest.TestCase):
    def check(self, one):
        """The most errors, None for an endless order, or "many"; what is returned is judged by stepping."""
        rows = signed(rows_of(one))
        weights = reached(one, 300)
        if len(weights) > 300:
            check_raised(self, TooMany, {"what": "weights", "many": 301, "limit": 300}, most_errors, one)
            return "many"
        found = most_errors(one)
        self.assertIs(type(found.order), tuple)
        at = tuple([Fraction(0)] * len(rows[0]))
        for number in found.order:
            self.assertIs(type(number), int)
            self.assertLessEqual(product(at, rows[number]), 0)
            at = added(at, rows[number])
        if isinstance(found, Endless):
            self.assertFalse(any(at))
            self.assertTrue(1 <= len(found.order) <= 300)
            self.assertNotIsInstance(fence(one), Fence)
            return None
        self.assertIs(type(found), Most)
        self.assertIsInstance(fence(one), Fence)
        self.assertEqual((type(found.many), len(found.order)), (int, found.many))
        self.check_heights(found.heights, rows, weights)
        self.assertEqual(dict((fractions(place), height) for place, height in found.heights)[tuple([0] * len(rows[0]))], found.many)
        return found.many

    def check_heights(self, heights, rows, weights):
        self.assertIs(type(heights), tuple)
        places = []
        for pair in heights:
            self.assertEqual((type(pair), len(pair), type(pair[1])), (tuple, 2, int))
            check_tuple_of_ratios(self, pair[0], len(rows[0]))
            places.append(fractions(pair[0]))
        self.assertEqual(places, sorted(weights))
        told = dict(zip(places, [height for _, height in heights]))
        for place in places:
            behind = [told[added(place, row)] for row in rows if product(place, row) <= 0]
            self.assertEqual(told[place], max(behind) + 1 if behind else 0)

    def test_most_errors(self):
        for rows, many in [([(1, "a"), (2, "b")], 13), ([(0, "a"), (1, "b")], 5), ([(-1, "a"), (1, "b")], 2), ([(0, "a"), (0, "a"), (2, "b")], 3),
                           ([(0, "a"), (1, "b"), (3, "b")], 5)]:
            found = self.check(table(X, *rows))
            self.assertEqual(found, many, rows)

    def test_heights_by_hand(self):
        # Signed rows (-1, 1) and (1, 1): from zeros either one, then the other one errs no more or once.
        found = most_errors(table(X, (-1, "a"), (1, "b")))
        self.assertEqual([(fractions(weights), height) for weights, height in found.heights],
                         [((-1, 1), 1), ((0, 0), 2), ((0, 2), 0), ((1, 1), 1)])
        found = most_errors(table(X, (Fraction(-1, 3), "a"), (Fraction(1, 3), "b")))
        self.assertEqual([(fractions(weights), height) for weights, height in found.heights],
                         [((-1, Fraction(1, 3)), 1), ((0, 0), 2), ((0, Fraction(2, 3)), 0), ((1, Fraction(1, 3)), 1)])

    def test_endless_orders(self):
        for one in RINGS:
            found = self.check(one)
            self.assertIn(found, (None, "many"))
        self.assertEqual(sorted(most_errors(RINGS[0]).order), [0, 1])

    def test_fences(self):
        kinds = {self.check(one) == "many" for one in FENCES}
        self.assertEqual(kinds, {True, False})

    def test_three_hundred_weights_and_more(self):
        # With a fence: the nearer both rows are, the more weights; without one, far rings.
        sizes = {}
        for number in range(2, 26):
            one = table(X, (number, "a"), (number + 1, "b"))
            sizes[len(reached(one, 400))] = self.check(one)
        self.assertTrue(any(size > 300 and told == "many" for size, told in sizes.items()))
        self.assertTrue(any(250 < size <= 300 and told != "many" for size, told in sizes.items()), sizes)
        ringed = {}
        for number in range(1, 30):
            one = table(X, (0, "a"), (1, "b"), (number, "a"))
            ringed[len(reached(one, 400))] = self.check(one)
        self.assertTrue(any(size > 300 and told == "many" for size, told in ringed.items()), ringed)
        self.assertTrue(any(size <= 300 and told is None for size, told in ringed.items()))

    def test_exactly_300_and_301(self):
        for features, rows, size, told in [
            (PLANE, [(-4, -2, "a"), (11, 9, "b"), (10, 9, "a")], 300, "fence"), (PLANE, [(-3, 5, "a"), (-1, 11, "b"), (6, 8, "a")], 301, "fence"),
            (X, [(-9, "a"), (-7, "b"), (3, "a")], 300, "ring"), (X, [(12, "a"), (4, "b"), (-2, "a"), (-4, "b")], 301, "ring"),
        ]:
            one = table(features, *rows)
            self.assertEqual(len(reached(one, 400)), size)
            self.assertEqual(isinstance(fence(one), Fence), told == "fence")
            found = self.check(one)
            self.assertEqual(found == "many", size == 301)
            if size == 300:
                self.assertEqual(found is None, told == "ring")

    def test_many_tables(self):
        rng = random.Random(591)
        kinds = {}
        for turn in range(120):
            features = [X, PLANE, "yesno u\nyesno v", "yesno u\nfraction x"][turn % 4]
            one = random_table(rng, features, rng.randint(2, 5), ["a", "b"], 1 + turn % 3)
            if len(one.classes) == 2:
                found = self.check(one)
                kinds[found if isinstance(found, (str, type(None))) else "number"] = kinds.get(found, 0) + 1
        self.assertEqual(set(kinds), {"many", None, "number"})

    def test_two_classes(self):
        for one in UNLIKE:
            check_raised(self, Unlike, {"what": "classes"}, most_errors, one)

    def test_asked_again(self):
        one = table(X, (0, "a"), (1, "b"))
        first, second = most_errors(one), most_errors(one)
        self.assertEqual((first.many, first.order, first.heights), (second.many, second.order, second.heights))


if __name__ == "__main__":
    unittest.main()
