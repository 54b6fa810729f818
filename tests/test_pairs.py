import random
import unittest
from fractions import Fraction

from checking import check_raised, check_ratio, check_tuple_of_ratios, fraction, fractions, numbers, plane, ratio
from hingeworks.bends import creases
from hingeworks.errors import BadGiven, BadNumber
from hingeworks.heaps import Heap, least_heap
from hingeworks.models import Model
from hingeworks.pairs import Pair, highest_of, least_pair, pair_apart, pair_of
from judging import told_at
from making import random_plane
from test_bends import PLANE, X, continuous_texts, whole

HALF = Fraction(1, 2)


def top(heap, point):
    return max(row[0] + sum(slope * item for slope, item in zip(row[1:], point)) for row in map(numbers, heap.planes))


def pair_worth(pair, point):
    return top(pair.plus, point) - top(pair.minus, point)


def rows(heap):
    return [numbers(one) for one in heap.planes]


def random_pair(rng, size, most=3):
    def heap():
        return Heap([random_plane(rng, size, lambda source: Fraction(source.randint(-2, 2)))
                     for _ in range(rng.randint(1, most))])
    return Pair(heap(), heap())


def random_point(rng, size):
    return tuple(Fraction(rng.randint(-20, 20), rng.choice([1, 2, 3])) for _ in range(size))


class PairsTest(unittest.TestCase):
    def check_least(self, heap):
        """No plane of the heap would be left out."""
        self.assertEqual(least_heap(heap).kept, tuple(range(len(heap.planes))))

    def test_attributes_and_worth(self):
        plus, minus = Heap([plane(0, 1), plane(0, -1)]), Heap([plane(1, 2)])
        pair = Pair(plus, minus)
        self.assertEqual((rows(pair.plus), rows(pair.minus), pair.size), (rows(plus), rows(minus), 1))
        for point in (0, 1, -3, HALF):
            check_ratio(self, pair.at((ratio(point),)), abs(point) - 1 - 2 * point)
            check_ratio(self, pair.at([ratio(point)]), abs(point) - 1 - 2 * point)
        for point in ((), (1, 2), None, 3, "a", (True,), (1.5,), {}):
            check_raised(self, BadGiven, {"what": "point"}, pair.at, point)

    def test_unlike_sizes(self):
        one, two = Heap([plane(0, 1)]), Heap([plane(0, 1, 2)])
        check_raised(self, BadNumber, {"what": "size", "number": 2}, Pair, one, two)
        check_raised(self, BadNumber, {"what": "size", "number": 1}, Pair, two, one)
        first, second = Pair(one, one), Pair(two, two)
        for call in (lambda a, b: a + b, lambda a, b: a - b, pair_apart):
            check_raised(self, BadNumber, {"what": "size", "number": 2}, call, first, second)
            check_raised(self, BadNumber, {"what": "size", "number": 1}, call, second, first)
        check_raised(self, BadNumber, {"what": "pairs", "number": 0}, highest_of, [])
        check_raised(self, BadNumber, {"what": "pairs", "number": 0}, highest_of, ())
        third = Pair(Heap([plane(1)]), Heap([plane(2)]))
        check_raised(self, BadNumber, {"what": "size", "number": 2}, highest_of, [first, first, second, third])
        check_raised(self, BadNumber, {"what": "size", "number": 0}, highest_of, [first, third, second])

    def test_operators_in_the_order_that_they_describe(self):
        rng = random.Random(191)
        for size in (0, 1, 2):
            a, b = random_pair(rng, size), random_pair(rng, size)
            for made, plus, minus in [
                (a + b, a.plus + b.plus, a.minus + b.minus), (a - b, a.plus + b.minus, a.minus + b.plus),
                (-a, a.minus, a.plus), (a * 3, a.plus * 3, a.minus * 3), (a * 0, a.plus * 0, a.minus * 0),
                (a * ratio(HALF), a.plus * ratio(HALF), a.minus * ratio(HALF)), (a * -2, a.minus * 2, a.plus * 2),
                (a * ratio(-HALF), a.minus * ratio(HALF), a.plus * ratio(HALF)),
            ]:
                self.assertIs(type(made), Pair)
                self.assertEqual((rows(made.plus), rows(made.minus), made.size), (rows(plus), rows(minus), size))
            for _ in range(5):
                point = random_point(rng, size)
                one, other = pair_worth(a, point), pair_worth(b, point)
                self.assertEqual(pair_worth(a + b, point), one + other)
                self.assertEqual(pair_worth(a - b, point), one - other)
                self.assertEqual(pair_worth(-a, point), -one)
                for factor in (0, 3, HALF, -2, -HALF):
                    self.assertEqual(pair_worth(a * ratio(factor), point), factor * one)

    def test_least_pairs(self):
        pair = Pair(Heap([plane(0, 1), plane(0, HALF), plane(0, 0), plane(0, 1)]), Heap([plane(1, 0), plane(0, 0)]))
        found = least_pair(pair)
        self.assertEqual((rows(found.plus), rows(found.minus)), ([(0, 1), (0, 0)], [(1, 0)]))
        rng = random.Random(192)
        for turn in range(60):
            pair = random_pair(rng, turn % 3, 5)
            found = least_pair(pair)
            for own, heap in ((found.plus, pair.plus), (found.minus, pair.minus)):
                self.assertEqual(rows(own), rows(least_heap(heap).heap))

    def test_highest_of_one_two_and_three_pairs(self):
        rng = random.Random(193)
        for turn in range(60):
            size = turn % 3
            pairs = [random_pair(rng, size) for _ in range(1 + turn % 3)]
            found = highest_of(pairs if turn % 2 else tuple(pairs))
            self.assertIs(type(found), Pair)
            self.check_least(found.plus)
            self.check_least(found.minus)
            for _ in range(8):
                point = random_point(rng, size)
                self.assertEqual(pair_worth(found, point), max(pair_worth(pair, point) for pair in pairs))
                self.assertEqual(top(found.minus, point), sum(top(pair.minus, point) for pair in pairs))

    def check_apart(self, one, other):
        found = pair_apart(one, other)
        if found is None:
            return False
        check_tuple_of_ratios(self, found, one.size)
        self.assertNotEqual(pair_worth(one, fractions(found)), pair_worth(other, fractions(found)))
        return True

    def test_pairs_that_are_equal_everywhere_though_written_otherwise(self):
        absolute = Pair(Heap([plane(0, 1), plane(0, -1)]), Heap([plane(0, 0)]))
        other = Pair(Heap([plane(0, 2), plane(0, 0)]), Heap([plane(0, 1)]))
        self.assertFalse(self.check_apart(absolute, other))
        self.assertTrue(self.check_apart(absolute, -absolute))
        self.assertTrue(self.check_apart(absolute, Pair(absolute.plus, Heap([plane(Fraction(1, 10 ** 30), 0)]))))
        rng = random.Random(194)
        same, unlike = 0, 0
        for turn in range(50):
            one, other = random_pair(rng, turn % 3), random_pair(rng, turn % 3, 2)
            # Some planes more in both heaps leave the worth as it is.
            lifted = Pair(one.plus + other.plus, one.minus + other.plus)
            self.assertFalse(self.check_apart(one, lifted))
            self.assertFalse(self.check_apart(lifted, least_pair(one)))
            self.assertFalse(self.check_apart((one + other) - other, one))
            for beside in (other, Pair(one.plus, other.minus), Pair(one.plus, one.minus.joined(other.minus))):
                if self.check_apart(one, beside):
                    unlike += 1
                else:
                    same += 1
                    for _ in range(5):
                        point = random_point(rng, one.size)
                        self.assertEqual(pair_worth(one, point), pair_worth(beside, point))
        self.assertGreater(unlike, 50)

    def check_pair_of(self, rng, text):
        """Both heaps are least, the worth is that of the model, and minus is the sum of the creases that fall."""
        found = pair_of(Model(text))
        self.assertIs(type(found), Pair)
        self.check_least(found.plus)
        self.check_least(found.minus)
        falling = [(crease.row, fraction(crease.bends[0])) for crease in creases(Model(text)) if crease.bends[0].top < 0]
        for _ in range(6):
            point = random_point(rng, found.size)
            self.assertEqual(pair_worth(found, point), told_at(whole(text), point))
            total = Fraction(0)
            for row, bend in falling:
                total -= bend * abs(row[0] + sum(share * item for share, item in zip(row[1:], point)))
            self.assertEqual(top(found.minus, point), total)
        return len(found.plus.planes), len(found.minus.planes)

    def test_pairs_of_models(self):
        rng = random.Random(195)
        for text, sizes in [
            (X + "sum f 1 x 2", (1, 1)), (X + "hinge f 0 x 1", (2, 1)), (X + "hinge a 0 x 1\nsum f 0 a -1", (1, 2)),
            (X + "clip f 0 1 0 x 1", (2, 2)), (PLANE + "highest f 0 , 0 x 1 , 0 y 1", (3, 1)),
            (PLANE + "highest a 0 , 0 x 1 , 0 y 1\nsum f 0 a -1", (3, 6)),
            (X + "hinge a 0 x 1\nhinge b 0 x -1\nsum f 0 a 1 b -1", (1, 1)),
            ("fraction x from 1 to 2\nhinge f 0 x 1", (2, 1)),
        ]:
            self.assertEqual(self.check_pair_of(rng, text), sizes, text)
        self.assertEqual(rows(pair_of(Model(X + "hinge f 0 x 1")).minus), [(0, 0)])
        self.assertEqual(sorted(rows(pair_of(Model(X + "hinge a 0 x 1\nsum f 0 a -1")).minus)),
                         [(0, -HALF), (0, HALF)])

    def test_many_models(self):
        rng = random.Random(196)
        sizes = [self.check_pair_of(rng, text) for text in continuous_texts(rng, 120)]
        self.assertGreater(sum(plus > 1 for plus, _ in sizes), 40)
        self.assertGreater(sum(minus > 1 for _, minus in sizes), 20)

    def test_pairs_of_models_that_are_alike(self):
        one = Model(PLANE + "hinge a 0 x 1 y -1\nleaky b -1 0 y 1\nsum f 0 a 2 b -3")
        other = Model(PLANE + "highest a 0 x 1 y -1 , 0\nhinge b 0 y 1\nsum f 0 y 3 a 2 b -6")
        found, again = pair_of(one), pair_of(other)
        self.assertIsNone(pair_apart(found, again))
        self.assertEqual(sorted(rows(found.plus)), sorted(rows(again.plus)))
        self.assertEqual(sorted(rows(found.minus)), sorted(rows(again.minus)))
        self.assertIsNone(pair_apart(pair_of(one), found))


if __name__ == "__main__":
    unittest.main()
