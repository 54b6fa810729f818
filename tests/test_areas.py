import random
import unittest
from fractions import Fraction

from checking import check_raised, check_ratio, fraction, fractions, numbers, worth
from hingeworks.areas import Area, areas, shares
from hingeworks.errors import BadNumber, NotPlain, Unlike
from hingeworks.models import Model
from hingeworks.unfolding import unfolded
from modeltexts import random_text
from reference import Text

SQUARE = "fraction x from 0 to 1\nfraction y from 0 to 1\n"
WIDE = "fraction x from -2 to 4\nyesno u\nfraction y from 1/2 to 2\n"
HALF = Fraction(1, 2)


def turn(one, middle, other):
    """Above 0 if the way from one by the middle to the other turns left."""
    return ((middle[0] - one[0]) * (other[1] - middle[1])) - ((middle[1] - one[1]) * (other[0] - middle[0]))


def polygon(planes):
    """The corners of the closed place of planes, told by Fractions: from all points at which two planes are 0."""
    rows = [numbers(part) for part in planes]
    points = set()
    for at, (a, b, c) in enumerate(rows):
        for d, e, f in rows[:at]:
            bottom = b * f - c * e
            if bottom != 0:
                point = ((c * d - a * f) / bottom, (a * e - b * d) / bottom)
                if all(g + h * point[0] + k * point[1] >= 0 for g, h, k in rows):
                    points.add(point)
    first = min(points)
    # Seen from the first corner, the others stand in the order of their slopes.
    rest = sorted(points - {first}, key=lambda point: slope_key(first, point))
    return [first] + rest


def slope_key(first, point):
    run, rise = point[0] - first[0], point[1] - first[1]
    return (1, 0) if run == 0 else (0, rise / run)


def area_of(corners):
    return sum(corners[at - 1][0] * here[1] - here[0] * corners[at - 1][1] for at, here in enumerate(corners)) / 2


class AreasTest(unittest.TestCase):
    def check(self, text):
        """All that [37] and [38] say; returns pairs (leaf, area)."""
        model = Model(text)
        leaves = unfolded(model).leaves
        found = areas(model)
        self.assertIs(type(found), tuple)
        self.assertEqual([part.leaf for part in found], [at for at, leaf in enumerate(leaves) if leaf.is_full])
        totals = {}
        for part in found:
            leaf = leaves[part.leaf]
            self.check_area(part, leaf)
            totals[leaf.settings] = totals.get(leaf.settings, 0) + fraction(part.area)
        apart = Text(text)
        whole = Fraction(1)
        for name in apart.fractions:
            whole = whole * (apart.end(name, "to") - apart.end(name, "from"))
        self.assertEqual(totals, {settings: whole for settings in model.features.all_settings()})
        if model.tells == "class":
            self.check_shares(model, found, leaves, whole)
        return [(part.leaf, fraction(part.area)) for part in found]

    def check_area(self, part, leaf):
        self.assertIs(type(part), Area)
        self.assertIs(type(part.leaf), int)
        self.assertIs(type(part.corners), tuple)
        for corner in part.corners:
            self.assertIs(type(corner), tuple)
            self.assertEqual(len(corner), 2)
            for item in corner:
                check_ratio(self, item)
        corners = [fractions(corner) for corner in part.corners]
        self.assertEqual(corners, polygon([plane for plane, _ in leaf.place.rows]))
        for at, corner in enumerate(corners):
            self.assertGreater(turn(corners[at - 2], corners[at - 1], corner), 0)
            self.assertTrue(all(worth(plane, corner) >= 0 for plane, _ in leaf.place.rows))
        self.assertEqual(corners[0], min(corners))
        check_ratio(self, part.area, area_of(corners))
        self.assertGreater(fraction(part.area), 0)

    def check_shares(self, model, found, leaves, whole):
        told = shares(model)
        self.assertIs(type(told), dict)
        self.assertEqual(tuple(told), model.classes)
        totals = {one: Fraction(0) for one in model.classes}
        for part in found:
            totals[leaves[part.leaf].told[0]] += fraction(part.area) / whole / len(model.features.all_settings())
        for one, share in told.items():
            check_ratio(self, share, totals[one])
        self.assertEqual(sum(totals.values()), 1)

    def corners(self, text):
        return [[fractions(corner) for corner in part.corners] for part in areas(Model(text))]

    def test_the_corners_of_a_square_and_its_parts(self):
        self.assertEqual(self.corners(SQUARE + "sum f 0"), [[(0, 0), (1, 0), (1, 1), (0, 1)]])
        self.assertEqual(self.corners(SQUARE + "sign s no yes 0 x 1 y -1"),
                         [[(0, 0), (1, 1), (0, 1)], [(0, 0), (1, 0), (1, 1)]])
        self.assertEqual(self.corners(SQUARE + "sign s no yes -1/2 x 1"),
                         [[(0, 0), (HALF, 0), (HALF, 1), (0, 1)], [(HALF, 0), (1, 0), (1, 1), (HALF, 1)]])
        self.assertEqual(self.corners(SQUARE + "sign s no yes -1 x 1 y 1"),
                         [[(0, 0), (1, 0), (0, 1)], [(0, 1), (1, 0), (1, 1)]])
        # The line that cuts a corner off leaves five corners; the least x and then the least y stands first.
        self.assertEqual(self.corners(SQUARE + "sign s no yes -1/2 x 1 y 1"),
                         [[(0, 0), (HALF, 0), (0, HALF)], [(0, HALF), (HALF, 0), (1, 0), (1, 1), (0, 1)]])
        self.check(SQUARE + "sign s no yes -1/2 x 1 y 1")

    def test_no_corner_on_the_line_through_its_neighbors(self):
        text = SQUARE + "sign s no yes 0 x 1 y 1\nsign t no yes -2 x 1 y 1\nsign u no yes -1 x 1\nsign v no yes 0 x -1"
        # All these lines touch the square without cutting it.
        self.assertEqual(self.corners(text), [[(0, 0), (1, 0), (1, 1), (0, 1)]])
        self.check(text)
        text = SQUARE + "sign s no yes 0 x 1\nsign t no yes -1 x 1 y 1\nsign u no yes -1/2 x 1"
        self.check(text)
        self.check(SQUARE + "sign s no yes -1 x 1 y 1\nsign t no yes 0 x 1 y -1\nsign u no yes -1/2 x 1")

    def test_areas(self):
        self.assertEqual(self.check(SQUARE + "sign s no yes 0 x 1 y -1"), [(0, HALF), (1, HALF)])
        self.assertEqual(self.check(SQUARE + "hinge h -3/4 x 1"), [(0, Fraction(3, 4)), (1, Fraction(1, 4))])
        self.assertEqual(self.check(WIDE + "sum f 0 x 1 u 3"), [(0, 9), (1, 9)])
        self.assertEqual(self.check(WIDE + "sign s no yes 0 x 1 u -2"), [(0, 3), (1, 6), (2, 6), (3, 3)])

    def test_thin_leaves_have_no_area(self):
        text = SQUARE + "tree t\nask -1/2 x 1\nask 1/2 x -1\nclass dot\nclass low\nclass high"
        self.assertEqual(self.check(text), [(1, HALF), (2, HALF)])
        self.assertEqual({one: fraction(share) for one, share in shares(Model(text)).items()},
                         {"dot": 0, "low": HALF, "high": HALF})
        self.assertEqual(self.check(SQUARE + "sign s no yes 0 x 1"), [(1, 1)])

    def test_shares(self):
        text = WIDE + "rules r\nif big -1 x 1 u 1\nif never -1\nelse small"
        self.assertEqual({one: fraction(share) for one, share in shares(Model(text)).items()},
                         {"big": Fraction(7, 12), "never": 0, "small": Fraction(5, 12)})
        self.check(text)
        # Each call returns a dict of its own.
        model = Model(text)
        shares(model).clear()
        self.assertEqual(len(shares(model)), 3)

    def test_many_models(self):
        rng = random.Random(91)
        features = [SQUARE, WIDE, "yesno a\nfraction b from -1 to 1/3\nyesno c\nfraction d from 5 to 6 by 2\n"]
        many = 0
        for at in range(150):
            kinds = [rng.choice(["hinge", "sign", "clip", "tree", "highest", "choose", "near", "treeclass"])
                     for _ in range(rng.randint(1, 4))]
            text = random_text(rng, 0, 0, kinds, 0, Text(features[at % 3] + "sum f 0"))
            many += len(self.check(text))
        self.assertGreater(many, 400)

    def test_many_lines(self):
        rng = random.Random(92)
        rows = [f"hinge h{'abcdefghijklmnop'[at]} {rng.randint(-9, 9)}/7 x {rng.randint(1, 9)} y {rng.randint(-9, -1)}"
                for at in range(12)]
        text = SQUARE + "\n".join(row.replace(" 7/7", " 1").replace(" -7/7", " -1").replace(" 0/7", " 0")
                                  for row in rows)
        self.assertGreater(len(self.check(text)), 20)

    def test_the_order_of_errors(self):
        for many, lines in [(0, "yesno u"), (1, "fraction x"), (1, "yesno u\nfraction x from 0 to 1"),
                            (3, "fraction x from 0 to 1\nfraction y\nfraction z")]:
            number, told = Model(lines + "\nsum f 0"), Model(lines + "\nsign s no yes 0")
            check_raised(self, BadNumber, {"what": "fractions", "number": many}, areas, number)
            check_raised(self, BadNumber, {"what": "fractions", "number": many}, areas, told)
            check_raised(self, BadNumber, {"what": "fractions", "number": many}, shares, told)
            check_raised(self, Unlike, {"what": "kind"}, shares, number)
        for name, lines in [("x", "fraction x\nfraction y"), ("x", "fraction x from 0\nfraction y from 0 to 1"),
                            ("x", "fraction x to 0\nfraction y from 0"), ("y", "fraction x from 0 to 1\nfraction y to 0"),
                            ("y", "fraction x from 0 to 1\nyesno u\nfraction y from 0")]:
            check_raised(self, NotPlain, {"name": name}, areas, Model(lines + "\nsum f 0"))
            check_raised(self, NotPlain, {"name": name}, areas, Model(lines + "\nsign s no yes 0"))
            check_raised(self, NotPlain, {"name": name}, shares, Model(lines + "\nsign s no yes 0"))
            check_raised(self, Unlike, {"what": "kind"}, shares, Model(lines + "\nsum f 0"))
        check_raised(self, Unlike, {"what": "kind"}, shares, Model(SQUARE + "sum f 0"))


if __name__ == "__main__":
    unittest.main()
