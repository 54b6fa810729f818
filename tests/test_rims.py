import random
import unittest

from checking import check_tuple_of_ratios, fractions, is_inner, numbers, worth
from hingeworks.empties import point_of
from hingeworks.models import Model
from hingeworks.places import Place
from hingeworks.rims import Rim, rims
from hingeworks.unfolding import unfolded
from judging import hyperplane
from modeltexts import random_text, some_texts
from reference import Text

SQUARE = "fraction x from 0 to 2\nfraction y from 0 to 2\n"


def flat_planes(leaf):
    """The planes of the rows of a leaf that are not numbers."""
    return [part for part, _ in leaf.place.rows if any(numbers(part)[1:])]


def meeting(one, other, part):
    """The place of the points of a rim of two leaves at the hyperplane of a plane."""
    row = hyperplane(numbers(part))
    rows = [(side, True) for leaf in (one, other) for side in flat_planes(leaf) if hyperplane(numbers(side)) != row]
    return Place([(part, False), (-part, False)] + rows, part.size)


def tried_rims(leaves):
    """All rims by trying out each plane of each two full leaves: triples (first, second, row)."""
    found = []
    for second, other in enumerate(leaves):
        for first, one in enumerate(leaves[:second]):
            if not one.is_full or not other.is_full or one.settings != other.settings:
                continue
            parts = {hyperplane(numbers(part)): part for leaf in (one, other) for part in flat_planes(leaf)}
            rows = [row for row, part in parts.items() if point_of(meeting(one, other, part)) is not None]
            found += [(first, second, row) for row in rows]
    return sorted(found)


class RimsTest(unittest.TestCase):
    def check(self, *texts):
        """All that [36] says; returns the triples (first, second, row)."""
        unfolding = unfolded(*[Model(text) for text in texts])
        found = rims(unfolding)
        self.assertIs(type(found), tuple)
        for rim in found:
            self.check_rim(rim, unfolding.leaves)
        told = [(rim.first, rim.second, rim.row) for rim in found]
        self.assertEqual(told, tried_rims(unfolding.leaves))
        return told

    def check_rim(self, rim, leaves):
        self.assertIs(type(rim), Rim)
        self.assertEqual((type(rim.first), type(rim.second), type(rim.row)), (int, int, tuple))
        self.assertEqual([type(item) for item in rim.row], [int] * len(rim.row))
        self.assertLess(rim.first, rim.second)
        one, other = leaves[rim.first], leaves[rim.second]
        check_tuple_of_ratios(self, rim.point, one.place.size)
        point = fractions(rim.point)
        self.assertEqual(rim.row[0] + sum(share * item for share, item in zip(rim.row[1:], point)), 0)
        for leaf in (one, other):
            for part in flat_planes(leaf):
                if hyperplane(numbers(part)) != rim.row:
                    self.assertGreater(worth(part, point), 0)
        self.check_sides(rim, one, other, point)

    def check_sides(self, rim, one, other, point):
        """Near the point one leaf is all of one side, and the other leaf all of the other side."""
        sides = []
        for leaf in (one, other):
            holding = []
            for sign in (1, -1):
                step = max([1] + [abs(worth(part, point)) for part in flat_planes(leaf)])
                while True:
                    near = tuple(item + sign * step * share for item, share in zip(point, rim.row[1:]))
                    mixed = [part for part in flat_planes(leaf) if hyperplane(numbers(part)) != rim.row]
                    if all(worth(part, near) > 0 for part in mixed):
                        break
                    step = step / 2
                holding.append(is_inner(leaf.place, near))
            sides.append(tuple(holding))
        self.assertEqual(sorted(sides), [(False, True), (True, False)])

    def test_leaves_that_meet_at_a_line_at_a_point_and_not_at_all(self):
        text = SQUARE + "sign s no yes -1 x 1\nsign t no yes -1 y 1"
        self.assertEqual([leaf.answers for leaf in unfolded(Model(text)).leaves], [(0, 0), (0, 1), (1, 0), (1, 1)])
        self.assertEqual(self.check(text), [(0, 1, (-1, 0, 1)), (0, 2, (-1, 1, 0)), (1, 3, (-1, 1, 0)),
                                            (2, 3, (-1, 0, 1))])
        text = SQUARE + "sign s no yes -1 x 1\nsign t no yes -3/2 x 1"
        self.assertEqual(self.check(text), [(0, 1, (-1, 1, 0)), (1, 2, (-3, 2, 0))])

    def test_one_feature(self):
        text = "fraction x\nhinge a -1 x 2\nhinge b 3 x -1/2"
        self.assertEqual([leaf.answers for leaf in unfolded(Model(text)).leaves], [(0, 1), (1, 0), (1, 1)])
        self.assertEqual(self.check(text), [(0, 2, (-1, 2)), (1, 2, (-6, 1))])

    def test_planes_turned_round_and_by_factors(self):
        for plane in ("-1 x 1", "-7/3 x 7/3", "1 x -1", "5 x -5", "-1/2 x 1/2"):
            self.assertEqual(self.check(f"fraction x\nsign s no yes {plane}"), [(0, 1, (-1, 1))])
        self.assertEqual(self.check("fraction x\nfraction y\nsign s no yes 1/2 x -1/3 y 1"), [(0, 1, (-3, 2, -6))])
        self.assertEqual(self.check("fraction x\nfraction y\nsign s no yes 4 y -6"), [(0, 1, (-2, 0, 3))])

    def test_several_switches_that_turn_on_one_line(self):
        text = SQUARE + "sign s no yes -1 x 1\nsign t no yes -3 x 3\nsign u no yes -2 x 2\nhinge h -1 x 1"
        self.assertEqual(self.check(text), [(0, 1, (-1, 1, 0))])
        text = SQUARE + "sign s no yes -1 x 1\nsign t no yes 1 x -1\nsign u no yes 2 x -2"
        found = unfolded(Model(text)).leaves
        self.assertEqual([(leaf.answers, leaf.is_full) for leaf in found],
                         [((0, 0, 0), False), ((0, 1, 1), True), ((1, 0, 0), True)])
        self.assertEqual(self.check(text), [(1, 2, (-1, 1, 0))])

    def test_thin_leaves_between_full_ones(self):
        tree = "fraction x\nfraction y\ntree t\nask 0 x 1\nask 0 x -1\ntell 7\ntell 1\nask -1 y 1\ntell 2\ntell 3"
        self.assertEqual([leaf.is_full for leaf in unfolded(Model(tree)).leaves], [False, True, True, True])
        self.assertEqual(self.check(tree), [(1, 2, (0, 1, 0)), (1, 3, (0, 1, 0)), (2, 3, (-1, 0, 1))])

    def test_leaves_of_unlike_settings(self):
        text = "fraction x\nyesno u\nsign s no yes 0 x 1 u -1"
        self.assertEqual(self.check(text), [(0, 1, (0, 1)), (2, 3, (-1, 1))])
        self.assertEqual(self.check("yesno u\nsign s no yes -1/2 u 1"), [])

    def test_ranges_and_numbers(self):
        self.assertEqual(self.check("fraction x from 0 to 1\nsign s no yes -1 x 1"), [])
        self.assertEqual(self.check("fraction x from 0 to 1\nsign s no yes 0 x -1"), [])
        self.assertEqual(self.check("fraction x from 0 to 1\nsign s no yes 5\nsign t no yes 0"), [])
        self.assertEqual(self.check("fraction x from 0 to 1\nsum f 0 x 1"), [])
        self.assertEqual(self.check("fraction x from 0 to 1\nsign s no yes 5\nsign t no yes -1/2 x 1"), [(0, 1, (-1, 2))])

    def test_leaves_with_equal_results_have_rims(self):
        self.assertEqual(self.check("fraction x\ntree t\nask 0 x 1\ntell 4\ntell 4"), [(0, 1, (0, 1))])

    def test_several_models(self):
        one = SQUARE + "sign s no yes -1 x 1"
        other = SQUARE + "sign s no yes -1 y 1"
        third = SQUARE + "sign s no yes -2 x 1 y 1"
        self.assertEqual(len(self.check(one, other)), 4)
        self.assertEqual(len(self.check(one, other, third)), 6)
        self.assertEqual(self.check(one, one), [(0, 1, (-1, 1, 0))])

    def test_many_models(self):
        rng = random.Random(81)
        many = sum(len(self.check(text)) for text in some_texts(rng, 120, 4))
        self.assertGreater(many, 150)

    def test_many_models_in_several_letters(self):
        rng = random.Random(82)
        many = 0
        for turn in range(25):
            kinds = [rng.choice(["hinge", "sign", "clip", "tree", "highest"]) for _ in range(3)]
            text = random_text(rng, 2 + turn % 2, turn % 2, kinds, 0.5)
            other = random_text(rng, 0, 0, ["hinge"], 0, Text(text))
            many += len(self.check(text, other))
        self.assertGreater(many, 150)

    def test_asked_again(self):
        unfolding = unfolded(Model(SQUARE + "hinge a -1 x 1 y 1/2\nhinge b 1 x -1 a 3"))
        one, other = rims(unfolding), rims(unfolding)
        self.assertEqual([(rim.first, rim.second, rim.row, rim.point) for rim in one],
                         [(rim.first, rim.second, rim.row, rim.point) for rim in other])


if __name__ == "__main__":
    unittest.main()
