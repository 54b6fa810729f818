import random
import unittest
from fractions import Fraction
from itertools import product

from checking import (NO_NUMBERS, check_raised, check_ratio, check_tuple_of_ratios, fraction, fractions, numbers, plane,
                      ratio, worth)
from hingeworks.errors import BadGiven, BadNumber
from hingeworks.heaps import Heap, LeastHeap, cover, heap_apart, least_heap, over_point
from hingeworks.ratios import Ratio
from making import long_number, random_plane

HALF = Fraction(1, 2)
HALF_RATIO = Ratio(1, 2)
# |x|, with a plane that is greatest only where another one is equally great, and one that is covered.
BENT = [plane(0, -1), plane(0, 1), plane(0, HALF), plane(-1, 0)]


def top(planes, point):
    return max(worth(one, point) for one in planes)


def rows(planes):
    return [numbers(one) for one in planes]


def small_whole(rng):
    return Fraction(rng.randint(-2, 2))


def random_heap(rng, size, many, number=small_whole):
    """Planes some of which are equal, or lie between others."""
    planes = []
    for _ in range(many):
        kind = rng.random()
        if planes and kind < 0.15:
            planes.append(rng.choice(planes))
        elif len(planes) > 1 and kind < 0.4:
            one, other = rng.choice(planes), rng.choice(planes)
            shift = plane(rng.choice([0, 0, -1]), *[0] * size)
            planes.append(one * ratio(HALF) + other * ratio(HALF) + shift)
        else:
            planes.append(random_plane(rng, size, number))
    return planes


class HeapsTest(unittest.TestCase):
    def check_point(self, found, size):
        check_tuple_of_ratios(self, found, size)
        return fractions(found)

    def check_cover(self, weights, one, planes):
        """Weights of a heap that cover a plane, by adding up."""
        self.assertIs(type(weights), tuple)
        self.assertEqual(len(weights), len(planes))
        for weight in weights:
            self.assertIs(type(weight), int)
            self.assertGreaterEqual(weight, 0)
        self.assertTrue(any(weights))
        total = [-sum(weights) * item for item in numbers(one)]
        for weight, other in zip(weights, planes):
            total = [before + weight * item for before, item in zip(total, numbers(other))]
        self.assertFalse(any(total[1:]))
        self.assertGreaterEqual(total[0], 0)

    def check_over_or_cover(self, one, planes):
        """Either a point or weights, never both; returns whether it is a point."""
        heap = Heap(planes)
        point, weights = over_point(one, heap), cover(one, heap)
        self.assertEqual(point is None, weights is not None)
        if point is None:
            self.check_cover(weights, one, planes)
            return False
        found = self.check_point(point, one.size)
        self.assertGreater(worth(one, found), top(planes, found))
        return True

    def check_least(self, planes):
        """All that [49] says; returns the indices of the kept planes."""
        heap = Heap(planes)
        found = least_heap(heap)
        self.assertIs(type(found), LeastHeap)
        self.assertIs(type(found.heap), Heap)
        for items in (found.kept, found.points, found.covers):
            self.assertIs(type(items), tuple)
        self.assertEqual(list(found.kept), sorted(set(found.kept)))
        self.assertGreater(len(found.kept), 0)
        kept = [planes[at] for at in found.kept]
        self.assertEqual(rows(found.heap.planes), rows(kept))
        self.assertEqual(len(found.points), len(kept))
        self.assertEqual(len(found.covers), len(planes))
        for at, point in enumerate(found.points):
            spot = self.check_point(point, heap.size)
            for other, part in enumerate(kept):
                if other != at:
                    self.assertGreater(worth(kept[at], spot), worth(part, spot))
        for at, weights in enumerate(found.covers):
            if at in found.kept:
                self.assertIsNone(weights)
            else:
                self.check_cover(weights, planes[at], kept)
        # No plane that is kept is equal to an earlier one, and the point of each plane that is kept shows the rest.
        for at in found.kept:
            self.assertNotIn(numbers(planes[at]), rows(planes[:at]))
        return found.kept

    def test_tops(self):
        heap = Heap(BENT)
        for point, tops in [(0, (0, 1, 2)), (1, (1,)), (-1, (0,)), (Fraction(1, 10 ** 30), (1,))]:
            check_ratio(self, heap.at((ratio(point),)), top(BENT, (point,)))
            self.assertEqual(heap.at_top([ratio(point)]), tops)
        self.assertEqual(Heap([plane(1), plane(2), plane(2), plane(1)]).at_top(()), (1, 2))
        self.assertEqual(Heap([plane(5), plane(2)]).at(()), 5)
        one = plane(0, 1, 1)
        heap = Heap([one, plane(1, 0, 0), one, plane(0, 2, 0)])
        self.assertEqual(heap.at_top((HALF_RATIO, HALF_RATIO)), (0, 1, 2, 3))
        self.assertEqual(heap.at_top((0, 2)), (0, 2))
        self.assertIs(type(heap.at_top((0, 0))), tuple)

    def test_attributes(self):
        planes = [plane(0, 1), plane(2, 3)]
        heap = Heap(planes)
        planes.append(plane(9, 9))
        self.assertIs(type(heap.planes), tuple)
        self.assertEqual(rows(heap.planes), [(0, 1), (2, 3)])
        self.assertEqual(heap.size, 1)
        self.assertEqual(rows(Heap((plane(0, 1), plane(0, 1))).planes), [(0, 1), (0, 1)])

    def test_points_that_are_none(self):
        heap = Heap([plane(0, 1, 2), plane(1, 0, 0)])
        for point in ((), (1,), (1, 2, 3), 5, None, "ab", {1: 2, 3: 4}, (1, True), [None, 1], (1, 1.0)):
            check_raised(self, BadGiven, {"what": "point"}, heap.at, point)
            check_raised(self, BadGiven, {"what": "point"}, heap.at_top, point)

    def test_the_empty_list_and_unlike_sizes(self):
        check_raised(self, BadNumber, {"what": "planes", "number": 0}, Heap, [])
        check_raised(self, BadNumber, {"what": "planes", "number": 0}, Heap, ())
        check_raised(self, BadNumber, {"what": "size", "number": 2}, Heap, [plane(0, 1), plane(0, 1, 2), plane(0)])
        check_raised(self, BadNumber, {"what": "size", "number": 0}, Heap, [plane(0, 1), plane(0, 3), plane(0), plane(0, 1, 2)])

    def test_sums_multiples_and_joined_heaps(self):
        one = Heap([plane(1, 2), plane(3, 4)])
        other = Heap([plane(10, 20), plane(30, 40), plane(10, 20)])
        self.assertEqual(rows((one + other).planes), [(11, 22), (31, 42), (11, 22), (13, 24), (33, 44), (13, 24)])
        self.assertEqual(rows((other + one).planes), [(11, 22), (13, 24), (31, 42), (33, 44), (11, 22), (13, 24)])
        self.assertEqual(rows(one.joined(other).planes), [(1, 2), (3, 4), (10, 20), (30, 40), (10, 20)])
        for factor in (0, 1, 3, HALF, Fraction(7, 3)):
            given = int(factor) if factor == int(factor) else ratio(factor)
            self.assertEqual(rows((one * given).planes), [(factor, 2 * factor), (3 * factor, 4 * factor)])
            self.assertEqual(rows((one * ratio(factor)).planes), [(factor, 2 * factor), (3 * factor, 4 * factor)])
        for made in (one + other, one * 0, one.joined(other)):
            self.assertIs(type(made), Heap)
            self.assertEqual(made.size, 1)
        self.assertEqual(rows(one.planes), [(1, 2), (3, 4)])
        self.assertEqual(rows(other.planes), [(10, 20), (30, 40), (10, 20)])
        # The top of the sum is the sum of the tops.
        for point in (-5, -1, 0, 2):
            self.assertEqual(fraction((one + other).at((point,))), fraction(one.at((point,))) + fraction(other.at((point,))))

    def test_factors_below_0(self):
        heap = Heap([plane(1, 2)])
        for factor in (-1, ratio(Fraction(-1, 7)), -(10 ** 20)):
            check_raised(self, BadNumber, {"what": "ratio", "number": factor}, lambda factor: heap * factor, factor)

    def test_unlike_sizes_of_two_arguments(self):
        one, other = Heap([plane(1, 2)]), Heap([plane(1, 2, 3)])
        check_raised(self, BadNumber, {"what": "size", "number": 2}, lambda: one + other)
        check_raised(self, BadNumber, {"what": "size", "number": 1}, lambda: other + one)
        check_raised(self, BadNumber, {"what": "size", "number": 2}, one.joined, other)
        for call in (over_point, cover):
            check_raised(self, BadNumber, {"what": "size", "number": 2}, call, plane(1, 2), other)
            check_raised(self, BadNumber, {"what": "size", "number": 1}, call, plane(1), one)
        check_raised(self, BadNumber, {"what": "size", "number": 2}, heap_apart, one, other)
        check_raised(self, BadNumber, {"what": "size", "number": 1}, heap_apart, other, one)

    def test_points_over_a_heap_and_covers(self):
        for one, planes, expected in [
            (plane(0, HALF), [plane(0, 0), plane(0, 1)], False),
            (plane(Fraction(1, 100), HALF), [plane(0, 0), plane(0, 1)], True),
            (plane(0, 1), [plane(0, 1)], False), (plane(0, 1), [plane(1, 1)], False), (plane(1, 1), [plane(0, 1)], True),
            (plane(0, 2), [plane(0, 1), plane(0, -1)], True), (plane(-7, 0), [plane(0, 1), plane(0, -1)], False),
            (plane(0, 0), [plane(0, 1), plane(0, -1)], False), (plane(1, 0), [plane(0, 1), plane(0, -1)], True),
            (plane(3), [plane(2), plane(1)], True), (plane(2), [plane(2), plane(1)], False),
            (plane(0, 1, 0), [plane(0, 0, 1), plane(0, 2, -1)], False), (plane(0, 1, 0), [plane(0, 0, 1)], True),
        ]:
            self.assertEqual(self.check_over_or_cover(one, planes), expected)

    def test_many_points_and_covers(self):
        rng = random.Random(171)
        over, covered = 0, 0
        for turn in range(400):
            size = turn % 4
            number = long_number if turn % 20 == 0 else small_whole
            planes = random_heap(rng, size, rng.randint(1, 6), number)
            for one in (random_plane(rng, size, number), rng.choice(planes), planes[0] * HALF_RATIO + planes[-1] * HALF_RATIO):
                if self.check_over_or_cover(one, planes):
                    over += 1
                else:
                    covered += 1
        self.assertGreater(min(over, covered), 200)

    def test_least_heaps(self):
        for planes, kept in [
            (BENT, (0, 1)),
            ([plane(0, 0), plane(0, 1), plane(0, HALF)], (0, 1)),
            ([plane(0, HALF), plane(0, 0), plane(0, 1)], (1, 2)),
            ([plane(0, 0), plane(0, 1), plane(Fraction(1, 10 ** 40), HALF)], (0, 1, 2)),
            ([plane(0, 0), plane(0, 1), plane(Fraction(-1, 10 ** 40), HALF)], (0, 1)),
            ([plane(1, 2), plane(1, 2), plane(0, 2), plane(1, 2)], (0,)),
            ([plane(0, 2), plane(1, 2), plane(1, 2)], (1,)),
            ([plane(3), plane(5), plane(5), plane(4)], (1,)),
            ([plane(3)], (0,)),
            ([plane(0, 1, 0), plane(0, 0, 1), plane(0, HALF, HALF), plane(0, -1, -1), plane(0, 0, 0)], (0, 1, 3)),
            ([plane(0, 0, 0), plane(1, 0, 0), plane(0, 1, 0)], (1, 2)),
        ]:
            self.assertEqual(self.check_least(planes), kept)

    def test_many_least_heaps(self):
        rng = random.Random(172)
        left, kept = 0, 0
        for turn in range(250):
            size = turn % 4
            number = long_number if turn % 25 == 0 else small_whole
            planes = random_heap(rng, size, rng.randint(1, 9), number)
            found = self.check_least(planes)
            kept += len(found)
            left += len(planes) - len(found)
            for _ in range(4):
                point = [rng.randint(-9, 9) for _ in range(size)]
                self.assertEqual(top(planes, point), top([planes[at] for at in found], point))
            shuffled = rng.sample(planes, len(planes))
            again = self.check_least(shuffled)
            self.assertEqual(sorted(rows(shuffled[at] for at in again)), sorted(rows(planes[at] for at in found)))
        self.assertGreater(min(left, kept), 200)

    def test_larger_heaps(self):
        rng = random.Random(173)
        # Planes that touch a round shape are all kept; sums of two heaps have many that are not.
        planes = [plane(-Fraction(a * a + b * b), 2 * a, 2 * b) for a, b in product(range(-4, 5), repeat=2)]
        rng.shuffle(planes)
        self.assertEqual(self.check_least(planes), tuple(range(81)))
        one, other = Heap(planes[:20]), Heap(planes[20:40])
        self.check_least(list((one + other).planes))

    def check_apart(self, one, other):
        """Whether the tops differ, by putting a point in, or by covers in both directions."""
        found = heap_apart(Heap(one), Heap(other))
        if found is None:
            for first, second in ((one, other), (other, one)):
                for part in first:
                    self.check_cover(cover(part, Heap(second)), part, second)
            return False
        point = self.check_point(found, one[0].size)
        self.assertNotEqual(top(one, point), top(other, point))
        return True

    def test_heaps_apart(self):
        absolute = [plane(0, 1), plane(0, -1)]
        for one, other, expected in [
            (absolute, [plane(0, -1), plane(0, 1)], False), (absolute, BENT, False), (absolute, absolute * 2, False),
            (absolute, [plane(0, 1)], True), ([plane(0, 1)], absolute, True),
            (absolute, absolute + [plane(Fraction(1, 10 ** 30), 0)], True),
            (absolute, absolute + [plane(0, 0)], False), ([plane(1)], [plane(1), plane(0)], False),
            ([plane(1)], [plane(2)], True), ([plane(0, 1)], [plane(0, 2)], True), ([plane(0, 1)], [plane(1, 1)], True),
        ]:
            self.assertEqual(self.check_apart(one, other), expected)

    def test_many_heaps_apart(self):
        rng = random.Random(174)
        same, unlike = 0, 0
        for turn in range(200):
            size = turn % 4
            one = random_heap(rng, size, rng.randint(1, 6))
            others = [random_heap(rng, size, rng.randint(1, 6)), [one[at] for at in least_heap(Heap(one)).kept],
                      one + [one[0] * HALF_RATIO + one[-1] * HALF_RATIO], one[1:] or one]
            for other in others:
                if self.check_apart(one, other):
                    unlike += 1
                else:
                    same += 1
        self.assertGreater(min(same, unlike), 200)

    def test_nothing_is_changed(self):
        heap, one = Heap(random_heap(random.Random(5), 2, 6)), plane(1, 2, 3)
        before = rows(heap.planes)
        first = [over_point(one, heap), cover(one, heap), least_heap(heap).covers, heap_apart(heap, Heap([one]))]
        for factor in NO_NUMBERS:
            with self.assertRaises(TypeError):
                heap * factor
        again = [over_point(one, heap), cover(one, heap), least_heap(heap).covers, heap_apart(heap, Heap([one]))]
        self.assertEqual(first, again)
        self.assertEqual(rows(heap.planes), before)


if __name__ == "__main__":
    unittest.main()
