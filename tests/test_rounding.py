import random
import unittest
from fractions import Fraction
from math import floor

from checking import NO_NUMBERS, check_raised, check_tuple_of_ratios
from hingeworks.alike import apart
from hingeworks.bounds import loss
from hingeworks.errors import BadNumber, TooLarge, TooLong, TooMany, Unlike
from hingeworks.models import Model
from hingeworks.ratios import Ratio
from hingeworks.rounding import GridChoice, first_grid, rounded
from judging import check_given, told_at
from modeltexts import some_texts
from reference import Text, split_planes
from slimmer import lines_text, number_text

X = "fraction x\n"
HEADS = {"sum": 2, "hinge": 2, "leaky": 3, "clip": 4, "highest": 2, "sign": 4, "choose": 3, "tell": 1, "ask": 1, "if": 2}


def nearest(number, grid):
    """The nearest multiple of 1 / grid, by trying the two around the number."""
    low = floor(number * grid)
    down, up = number - Fraction(low, grid), Fraction(low + 1, grid) - number
    if down == up:
        return Fraction(low if low % 2 == 0 else low + 1, grid)
    return Fraction(low if down < up else low + 1, grid)


def digits_of(number):
    """How many digits an integer has, also one that Python does not write."""
    digits = 1
    while 10 ** digits <= abs(number):
        digits += 1
    return digits


def rounded_text(text, grid):
    """The text of [70], made from its pieces alone."""
    taken = Text(text)
    blocks = []
    for block in taken.blocks:
        block = [rounded_row(row, grid) for row in block]
        if block[0][0] == "clip" and block[0][2] == block[0][3]:
            block = [["sum", block[0][1], block[0][2]]]
        blocks.append(block)
    return lines_text(taken, blocks)


def rounded_row(row, grid):
    if row[0] not in HEADS:
        return row
    parts = []
    for place, part in enumerate(split_planes(row)):
        head = HEADS[row[0]] if place == 0 else (1 if row[0] == "choose" else 0)
        ends = {"leaky": [2], "clip": [2, 3]}.get(row[0], [])
        made = [number_text(nearest(Fraction(piece), grid)) if at in ends else piece for at, piece in enumerate(part[:head])]
        plane = part[head:]
        made.append(number_text(nearest(Fraction(plane[0]), grid)))
        for letter, multiple in zip(plane[1::2], plane[2::2]):
            if nearest(Fraction(multiple), grid) != 0:
                made += [letter, number_text(nearest(Fraction(multiple), grid))]
        parts.append(" ".join(made))
    return " , ".join(parts).split(" ")


class RoundedTest(unittest.TestCase):
    def check(self, text, grid, expected=None):
        found = rounded(Model(text), grid)
        self.assertIs(type(found), Model)
        self.assertEqual(found.text, rounded_text(text, grid))
        if expected is not None:
            self.assertEqual(found.text, expected)
        self.assertEqual(rounded(found, grid), found)
        return found

    def check_lines(self, features, lines, grid, expected):
        self.check(features + lines, grid, features + expected)

    def test_halves_go_to_the_even_multiple(self):
        for number, grid, expected in [
            ("3/8", 4, "1/2"), ("-3/8", 4, "-1/2"), ("1/8", 4, "0"), ("-1/8", 4, "0"), ("5/8", 4, "1/2"), ("7/8", 4, "1"), ("-7/8", 4, "-1"),
            ("1/2", 1, "0"), ("-1/2", 1, "0"), ("3/2", 1, "2"), ("-3/2", 1, "-2"), ("5/2", 1, "2"), ("-5/2", 1, "-2"), ("1/3", 1, "0"),
            ("2/3", 1, "1"), ("-2/3", 1, "-1"), ("1/6", 3, "0"), ("1/2", 3, "2/3"), ("-1/2", 3, "-2/3"), ("5/6", 3, "2/3"), ("3/7", 7, "3/7"),
            ("187/500", 4, "1/4"), ("47/125", 4, "1/2"), ("7", 5, "7"), ("13/10", 2, "3/2"),
        ]:
            self.check_lines(X, f"sum f {number}", grid, f"sum f {expected}")
            if expected != "0":
                self.check_lines(X, f"sum f 0 x {number}", grid, f"sum f 0 x {expected}")

    def test_multiples_that_become_0_are_left_out(self):
        self.check_lines("fraction x\nfraction y\n", "sum f 1/3 x 1/8 y 3/8", 4, "sum f 1/4 y 1/2")
        self.check_lines("fraction x\nfraction y\n", "hinge f 1/9 x 1/9 y -1/9", 4, "hinge f 0")
        self.check_lines(X, "highest f 1/9 x 1/9 , 1 x 1/2 , 1/9 x 1/9", 2, "highest f 0 , 1 x 1/2 , 0")

    def test_all_kinds_of_lines(self):
        features = "fraction x from -1/9 to 7/9 by 1/9\nyesno u by 2/9\n"
        lines = ("leaky a 4/9 5/9 x 7/9 u -4/9\nclip b -4/9 5/9 5/9 x -5/9\ntree t\nask -4/9 x 5/9\ntell 4/9 u 13/9\ntell 0 x 5/9\n"
                 "sign s no yes 5/9 b 5/9\nchoose c no 5/9 x 4/9 , yes 4/9 u 14/9\nrules r\nif no 4/9 x 5/9 , 5/9\nif yes 5/9\nelse no\n"
                 "near n 1 x 4/9 u 1/9\nrow no 1/9 4/9\nrow yes 5/9 8/9\nvotes v yes no : s c n\ngate g v yes r no n\n"
                 "tree w\nask 5/9\nclass no\nclass yes\nsum f 5/9 x 4/9 u 5/9 a 1/9 t 14/9")
        self.check_lines(features, lines, 1,
                         "leaky a 0 1 x 1\nclip b 0 1 1 x -1\ntree t\nask 0 x 1\ntell 0 u 1\ntell 0 x 1\n"
                         "sign s no yes 1 b 1\nchoose c no 1 , yes 0 u 2\nrules r\nif no 0 x 1 , 1\nif yes 1\nelse no\n"
                         "near n 1 x 4/9 u 1/9\nrow no 1/9 4/9\nrow yes 5/9 8/9\nvotes v yes no : s c n\ngate g v yes r no n\n"
                         "tree w\nask 1\nclass no\nclass yes\nsum f 1 u 1 t 2")

    def test_ends_of_clips_that_become_equal(self):
        for ends, grid, expected in [("1/9 2/9", 2, "sum f 0"), ("-1/9 1/9", 1, "sum f 0"), ("7/9 8/9", 1, "sum f 1"), ("3/8 5/8", 4, "sum f 1/2"),
                                     ("1/4 3/4", 2, "clip f 0 1 0 x 1"), ("1/4 1/3", 4, "sum f 1/4"), ("1/4 3/8", 4, "clip f 1/4 1/2 0 x 1")]:
            self.check_lines(X, f"clip f {ends} 0 x 1", grid, expected)
        # A later line may still name it, and the switches are fewer.
        found = self.check(X + "clip a 1/9 2/9 0 x 1\nhinge f 0 a 1", 2)
        self.assertEqual((found.text, found.switches), (X + "sum a 0\nhinge f 0 a 1", 1))

    def test_grids(self):
        text = X + "sum f 123456789123456789/1000000007 x 1/3"
        self.check_lines(X, "sum f 22/7 x 355/113", 1, "sum f 3 x 3")
        grid = 10 ** 40 + 1
        found = self.check(text, grid)
        self.assertIsNotNone(apart(Model(text), found))
        self.assertEqual(rounded(Model(text), 3 * 1000000007), Model(text))
        for grid in range(1, 30):
            self.check(text, grid)

    def test_the_loss(self):
        text = "fraction x from 0 to 1\nhinge f -3/8 x 7/8"
        found = loss(Model(text), rounded(Model(text), 2)).extreme
        # 7/8 * x - 3/8 becomes x - 1/2: at 1 both are 1/2, and where the second begins the first is 1/16.
        self.assertEqual((found.kind, found.value), ("reached", Ratio(1, 16)))

    def test_many_models(self):
        rng = random.Random(541)
        for text in some_texts(rng, 150, 5):
            self.check(text, rng.choice([1, 2, 3, 4, 7, 1000]))

    def test_what_is_no_grid(self):
        model = Model(X + "sum f 1/2")
        for grid in (*NO_NUMBERS, 0, -1, -10 ** 30, Ratio(1), Ratio(2), Ratio(1, 2)):
            check_raised(self, BadNumber, {"what": "grid", "number": grid}, rounded, model, grid)

    def test_numbers_that_are_too_long(self):
        grid = 10 ** 400 - 1
        places = ("sum f {}", "hinge f 0 x {}", "leaky f {} 0 x 1", "clip f 0 {} 0", "sign s no yes {} x 1", "tree f\nask {}\ntell 0\ntell 1")
        for power in (3000, 3599, 3600, 3601, 3602, 3998):
            number = Fraction(10 ** power, 7)
            made = nearest(number, grid)
            digits = max(digits_of(made.numerator), digits_of(made.denominator))
            self.assertEqual(digits > 4000, power > 3600)
            for place in places:
                model = Model(X + place.format(f"1{'0' * power}/7"))
                if digits > 4000:
                    check_raised(self, TooLong, {"digits": digits}, rounded, model, grid)
                else:
                    self.assertIn(number_text(made), rounded(model, grid).text)
                check_raised(self, BadNumber, {"what": "grid", "number": 0}, rounded, model, 0)
        # The first number of the text that is too long; a line is read from its left to its right.
        lines = f"sum a 1/7 x 1{'0' * 3700}/7\nsum f 1{'0' * 3900}/7"
        check_raised(self, TooLong, {"digits": digits_of(nearest(Fraction(10 ** 3700, 7), grid).numerator)}, rounded, Model(X + lines), grid)
        # The ranges stay as they are, and so do numbers on the grid.
        long = "9" * 4000
        self.check(f"fraction x from -1/{long} to {long} by 1/{long}\nsum f {long} x -{long}", 1)

    def test_asked_again(self):
        model = Model(X + "sum f 1/3 x 1/7")
        self.assertEqual(rounded(model, 2), rounded(model, 2))
        self.assertEqual(model.text, X + "sum f 1/3 x 1/7")


class FirstGridTest(unittest.TestCase):
    def check(self, text, grids):
        """The first grid that keeps the model; what is lost is checked by evaluating."""
        found = first_grid(Model(text), grids)
        self.assertIs(type(found), GridChoice)
        self.assertIs(type(found.lost), tuple)
        for grid, given in zip(grids, found.lost):
            numbers = check_given(self, text, given)
            self.assertNotEqual(told_at(text, numbers), told_at(rounded_text(text, grid), numbers))
        self.assertEqual(len(found.lost), len(grids) if found.grid is None else grids.index(found.grid))
        if found.grid is not None:
            self.assertIsNone(apart(Model(text), Model(rounded_text(text, found.grid))))
        return found.grid

    def test_the_example_of_the_document(self):
        text = X + "sign c low high -1/3 x 1"
        for grids, kept in [((2, 3, 4), 3), ((3,), 3), ((2,), None), ((4, 2), None), ((4, 2, 3), 3), ((2, 4, 4, 2), None), ((6, 3), 6), ((3, 6), 3),
                            ((2, 2, 2, 2, 2, 3), 3), ((), None), ((9, 3), 9)]:
            self.assertEqual(self.check(text, grids), kept)
        check_tuple_of_ratios(self, first_grid(Model(text), (2, 4)).lost[0], 1)
        self.assertEqual(first_grid(Model(text), [2, 3]).grid, 3)

    def test_for_every_input(self):
        for text, grids, kept in [
            ("fraction x from 1 to 2\nsign c low high -1/3 x 1", (2,), 2), ("fraction x from 0 to 1/4\nsign c low high -1/3 x 1", (1, 4), 4),
            ("yesno u\nsign c low high -1/3 u 1", (1, 2), 1), ("yesno u\nsign c low high -1/3 u 1/3", (1, 2, 3), 1),
            ("yesno u\nsign c low high -3/8 u 5/8", (1, 2, 4), 1),
            # Kept at all points but one.
            ("fraction x from 0 to 1\nsign c low high -5/9 x 4/9", (1, 2), 1), ("fraction x from 0 to 1\nsign c low high -1/9 x 4/9", (1,), None),
            ("fraction x from 0 to 1\ntree t\nask -1/9 x 1\nclass a\nclass b", (1, 9), 9), (X + "rules r\nelse no", (5, 1), 5),
            (X + "clip a 1/9 2/9 0 x 1\nsign s no yes -1/9 a 1", (1, 9), 9), (X + "near n 1 x 1/9\nrow a 1/9\nrow b 2/9", (1,), 1),
        ]:
            self.assertEqual(self.check(text, grids), kept, text)

    def test_many_models(self):
        rng = random.Random(542)
        lost, kept = 0, 0
        for text in some_texts(rng, 160, 3):
            model = Model(text)
            if model.tells == "class" and model.switches <= 12:
                text = text.replace(" -1 ", " -2/3 ").replace(" 2 ", " 7/4 ")
                try:
                    Model(text)
                except ValueError:
                    continue
                grid = self.check(text, tuple(rng.sample([1, 2, 3, 4, 5, 12], 3)))
                kept += grid is not None
                lost += grid is None
        self.assertGreater(min(lost, kept), 3)

    def test_the_order_of_errors(self):
        def with_switches(many, last="\nsign s no yes -1/3 h 1"):
            return Model(X + "highest h " + " , ".join(["0"] * (many + 1 - last.count("sign"))) + last)

        number = with_switches(21, "")
        for grids in ((), (1,) * 7, (0,), (1,)):
            check_raised(self, Unlike, {"what": "kind"}, first_grid, number, grids)
        for grids in ((1,) * 7, (0,) * 8, [None] * 7):
            check_raised(self, TooMany, {"what": "grids", "many": len(grids), "limit": 6}, first_grid, with_switches(21), grids)
        for grid in (*NO_NUMBERS, 0, -3, Ratio(3)):
            # Also behind a grid that keeps the model.
            for grids in ((grid,), (3, grid, 0), (3, 2, 1, 5, 6, grid)):
                for model in (with_switches(21), with_switches(2)):
                    check_raised(self, BadNumber, {"what": "grid", "number": grid}, first_grid, model, grids)
        for grids in ((), (3,), (2, 3)):
            check_raised(self, TooLarge, {"what": "switches", "many": 42, "limit": 40}, first_grid, with_switches(21), grids)
            self.assertEqual(first_grid(with_switches(20), grids).grid, grids[0] if grids else None)
        self.assertEqual(first_grid(with_switches(20), ()).lost, ())

    def test_asked_again(self):
        model = Model(X + "sign c low high -1/3 x 1")
        grids = [2, 4, 3]
        one, other = first_grid(model, grids), first_grid(model, grids)
        self.assertEqual((one.grid, one.lost), (other.grid, other.lost))
        self.assertEqual(grids, [2, 4, 3])


if __name__ == "__main__":
    unittest.main()
