import itertools
import operator
import random
import re
import unittest
from fractions import Fraction

from checking import NO_NUMBERS, check_raised, check_ratio, fraction, ratio
from hingeworks.errors import BadNumber, BadText, TooLong
from hingeworks.ratios import Ratio, ratio_of

# A part of a written form that some written form begins with.
BEGINNING = re.compile(r"(0|-?([1-9][0-9]*(/([1-9][0-9]*)?)?)?)\Z")
WHOLE = re.compile(r"(0|-?[1-9][0-9]*(/[1-9][0-9]*)?)\Z")


def some_numbers():
    rng = random.Random(4)
    found = [Fraction(top, bottom) for top in range(-6, 7) for bottom in (1, 2, 3, 4, 6)]
    for digits in (1, 40, 400):
        for _ in range(6):
            top = rng.randint(10 ** (digits - 1), 10 ** digits - 1)
            bottom = rng.randint(10 ** (digits - 1), 10 ** digits - 1)
            found.append(Fraction(rng.choice([-1, 1]) * top, bottom))
            found.append(Fraction(rng.choice([-1, 1]) * top))
            found.append(Fraction(rng.choice([-1, 1]), bottom))
    return found


NUMBERS = some_numbers()
WHOLES = [0, 1, -1, 2, -3, 12, 10 ** 40, -10 ** 400 + 1]


class LowestTermsTest(unittest.TestCase):
    def test_all_signs_and_common_factors(self):
        for top in range(-12, 13):
            for bottom in [number for number in range(-12, 13) if number != 0]:
                check_ratio(self, Ratio(top, bottom), Fraction(top, bottom))

    def test_told_examples(self):
        for given, top, bottom in [
            ((6, 4), 3, 2), ((-6, 4), -3, 2), ((6, -4), -3, 2), ((-6, -4), 3, 2), ((0, 7), 0, 1), ((0, -7), 0, 1),
            ((5,), 5, 1), ((-5,), -5, 1), ((0,), 0, 1), ((7, 7), 1, 1), ((7, -1), -7, 1), ((1, -3), -1, 3),
        ]:
            made = Ratio(*given)
            self.assertEqual((made.top, made.bottom), (top, bottom))

    def test_long_numbers(self):
        for digits in (40, 400, 5000):
            common = 10 ** digits + 7
            made = Ratio(-3 * common, -common * 2)
            self.assertEqual((made.top, made.bottom), (3, 2))
            made = Ratio(common, -1)
            self.assertTrue(made.top == -common and made.bottom == 1)

    def test_bottom_0(self):
        for top in (0, 1, -3, 10 ** 400):
            check_raised(self, BadNumber, {"what": "bottom", "number": 0}, Ratio, top, 0)


class CountingTest(unittest.TestCase):
    def test_with_ratios(self):
        for one, other in itertools.product(NUMBERS, repeat=2):
            left, right = ratio(one), ratio(other)
            check_ratio(self, left + right, one + other)
            check_ratio(self, left - right, one - other)
            check_ratio(self, left * right, one * other)
            if other != 0:
                check_ratio(self, left.over(right), one / other)

    def test_with_integers_behind(self):
        for one, other in itertools.product(NUMBERS, WHOLES):
            left = ratio(one)
            check_ratio(self, left + other, one + other)
            check_ratio(self, left - other, one - other)
            check_ratio(self, left * other, one * other)
            if other != 0:
                check_ratio(self, left.over(other), one / other)

    def test_negative(self):
        for one in NUMBERS:
            check_ratio(self, -ratio(one), -one)

    def test_over_0(self):
        for one in (0, 1, Fraction(-3, 4)):
            for zero in (0, Ratio(0), Ratio(0, -5)):
                check_raised(self, BadNumber, {"what": "bottom", "number": 0}, ratio(one).over, zero)

    def test_nothing_is_changed(self):
        one, other = Ratio(1, 2), Ratio(-2, 3)
        for _ in range(2):
            self.assertEqual(fraction(one + other), Fraction(-1, 6))
            self.assertEqual(fraction(one - other), Fraction(7, 6))
            self.assertEqual(fraction(one * other), Fraction(-1, 3))
            self.assertEqual(fraction(-one), Fraction(-1, 2))
            self.assertEqual(fraction(one.over(other)), Fraction(-3, 4))
            self.assertEqual(one.compared(other), 1)
            check_raised(self, BadNumber, {"what": "bottom"}, one.over, 0)
            self.assertEqual(one.written(), "1/2")
        self.assertEqual((one.top, one.bottom, other.top, other.bottom), (1, 2, -2, 3))


class ComparingTest(unittest.TestCase):
    def test_equal_to_ratios_and_integers(self):
        for one, other in itertools.product(NUMBERS, repeat=2):
            self.assertIs(ratio(one) == ratio(other), one == other)
            self.assertIs(ratio(one) != ratio(other), one != other)
        for one, other in itertools.product(NUMBERS, WHOLES + [3, -4]):
            self.assertIs(ratio(one) == other, one == other)
            self.assertIs(ratio(one) != other, one != other)
            self.assertIs(other == ratio(one), one == other)

    def test_told_equalities(self):
        self.assertTrue(Ratio(2, 4) == Ratio(-1, -2))
        self.assertTrue(Ratio(4, 2) == 2)
        self.assertFalse(Ratio(1, 2) == 1)
        self.assertFalse(Ratio(1, 2) == Ratio(1, 3))
        self.assertFalse(Ratio(1, 2) == Ratio(-1, 2))
        self.assertFalse(Ratio(1, 2) == Ratio(3, 2))

    def test_equal_to_nothing_else(self):
        for made in (Ratio(0), Ratio(1), Ratio(1, 2)):
            for other in NO_NUMBERS + [0.0, 0.5, Fraction(0), Fraction(1), "0", "1/2", (1, 2), BadNumber("a", 1)]:
                self.assertFalse(made == other, other)
                self.assertTrue(made != other, other)

    def test_order(self):
        for one, other in itertools.product(NUMBERS, repeat=2):
            self.check_order(ratio(one), ratio(other), one, other)
        for one, other in itertools.product(NUMBERS, WHOLES + [3, -4]):
            self.check_order(ratio(one), other, one, other)

    def check_order(self, left, right, one, other):
        compared = left.compared(right)
        self.assertIs(type(compared), int)
        self.assertEqual(compared, (one > other) - (one < other))
        self.assertIs(left.under(right), one < other)
        self.assertIs(left.at_most(right), one <= other)

    def test_order_of_close_numbers(self):
        base = Fraction(10 ** 400 + 1, 10 ** 399 + 7)
        near = base + Fraction(1, 10 ** 900)
        self.check_order(ratio(base), ratio(near), base, near)
        self.check_order(ratio(near), ratio(base), near, base)
        self.check_order(ratio(near), ratio(near), near, near)

    def test_no_order_signs(self):
        for other in (Ratio(1), 1):
            for order in (operator.lt, operator.le, operator.gt, operator.ge):
                with self.assertRaises(TypeError):
                    order(Ratio(1, 2), other)


class WrittenTest(unittest.TestCase):
    def test_told_forms(self):
        for made, text in [
            (Ratio(3, 4), "3/4"), (Ratio(-2), "-2"), (Ratio(0), "0"), (Ratio(0, -3), "0"), (Ratio(6, -4), "-3/2"),
            (Ratio(8, 4), "2"), (Ratio(1, 3), "1/3"), (Ratio(-1, 10), "-1/10"), (Ratio(120), "120"),
        ]:
            self.assertEqual(made.written(), text)

    def test_long_forms(self):
        for one in NUMBERS:
            text = str(one.numerator) + (f"/{one.denominator}" if one.denominator > 1 else "")
            self.assertEqual(ratio(one).written(), text)

    def test_4000_digits(self):
        nines = 10 ** 4000 - 1
        least = 10 ** 3999
        for made, text in [
            (Ratio(nines), "9" * 4000), (Ratio(-nines), "-" + "9" * 4000), (Ratio(least), "1" + "0" * 3999),
            (Ratio(1, nines), "1/" + "9" * 4000), (Ratio(-1, least), "-1/1" + "0" * 3999),
            (Ratio(nines, least), "9" * 4000 + "/1" + "0" * 3999),
            (Ratio(-least, nines), "-1" + "0" * 3999 + "/" + "9" * 4000),
        ]:
            self.assertEqual(made.written(), text)

    def test_too_long(self):
        for digits in (4001, 4002, 4300, 4301, 5000, 20000):
            for long in (10 ** (digits - 1), 10 ** digits - 1, 10 ** (digits - 1) + 3, 7 * 10 ** (digits - 1)):
                for made in (Ratio(long), Ratio(-long), Ratio(1, long), Ratio(-1, long)):
                    check_raised(self, TooLong, {"digits": digits}, made.written)

    def test_the_greater_number_of_digits(self):
        for above, below in [(4001, 5000), (5000, 4001), (4000, 4001), (4001, 4000), (20000, 1), (2, 20000)]:
            made = Ratio(10 ** (above - 1), 10 ** below - 1)
            check_raised(self, TooLong, {"digits": max(above, below)}, made.written)
            check_raised(self, TooLong, {"digits": max(above, below)}, (-made).written)


class RatioOfTest(unittest.TestCase):
    def check_bad(self, text, column):
        check_raised(self, BadText, {"line": 1, "column": column}, ratio_of, text)

    def check_too_long(self, text, digits):
        check_raised(self, TooLong, {"digits": digits}, ratio_of, text)

    def test_written_forms_are_read_back(self):
        for one in NUMBERS:
            check_ratio(self, ratio_of(ratio(one).written()), one)

    def test_forms_of_4000_digits_are_read_back(self):
        for top, bottom in [
            (10 ** 4000 - 1, 1), (-10 ** 3999, 1), (1, 10 ** 4000 - 1), (-10 ** 3999, 10 ** 4000 - 1), (7, 10 ** 3999),
        ]:
            made = ratio_of(Ratio(top, bottom).written())
            self.assertTrue(made.top == top and made.bottom == bottom)

    def test_told_forms(self):
        for text, top, bottom in [("0", 0, 1), ("3/4", 3, 4), ("-2", -2, 1), ("-10/7", -10, 7), ("100", 100, 1)]:
            made = ratio_of(text)
            self.assertIs(type(made), Ratio)
            self.assertEqual((made.top, made.bottom), (top, bottom))

    def test_wrong_forms(self):
        for text, column in [
            ("", 1), ("-", 2), ("-0", 2), ("00", 2), ("01", 2), ("0/3", 2), ("0 ", 2), ("0.5", 2), ("3/", 3),
            ("3/0", 3), ("3/04", 3), ("3/1", 3), ("6/4", 3), ("-6/4", 4), ("+3", 1), ("3/-4", 3), (" 3", 1),
            ("3 ", 2), ("3/4/5", 4), ("3/4 ", 4), ("-3/", 4), ("--3", 2), ("-00", 2), ("-01", 2), ("3-", 2),
            ("3/+4", 3), ("3//4", 3), ("/4", 1), ("-/4", 2), ("3.5", 2), ("1e5", 2), ("1_000", 2), ("1,000", 2),
            ("x", 1), ("3\n", 2), ("\n3", 1), ("3/4\n", 4), ("3\x00", 2), ("12/x", 4), ("12x/5", 3), ("- 3", 2),
            ("3 /4", 2), ("3/ 4", 3), ("1/2-", 4), ("123/10x", 7), ("-12/35 ", 7), ("-12/-35", 5),
        ]:
            self.check_bad(text, column)

    def test_common_divisors(self):
        for text, column in [
            ("1/1", 3), ("-1/1", 4), ("10/15", 4), ("-100/10", 6), ("2/2", 3), ("7/49", 3), ("49/7", 4), ("123/1", 5),
        ]:
            self.check_bad(text, column)
        self.check_bad("2" * 4000 + "/" + "4" * 4000, 4002)
        self.check_bad("-" + "3" * 4000 + "/1", 4003)

    def test_digits_that_are_not_0_to_9(self):
        for sign in ("\u0663", "\u00b2", "\uff13", "\u2460", "\U0001d7db"):
            for text, column in [(sign, 1), ("-" + sign, 2), ("3" + sign, 2), ("3/" + sign, 3), ("3/4" + sign, 4)]:
                self.check_bad(text, column)
        self.check_bad("\u22123", 1)
        self.check_bad("3\u20444", 2)
        self.check_bad("3\u00a0", 2)

    def test_all_short_texts(self):
        for length in range(5):
            for signs in itertools.product("-/0123 +x", repeat=length):
                self.check_by_rule("".join(signs))

    def check_by_rule(self, text):
        wrong = [end for end in range(1, len(text) + 1) if not BEGINNING.match(text[:end])]
        if wrong:
            return self.check_bad(text, wrong[0])
        if not WHOLE.match(text):
            return self.check_bad(text, len(text) + 1)
        top, slash, bottom = text.partition("/")
        number = Fraction(int(top), int(bottom or "1"))
        if slash and (bottom == "1" or number.denominator != int(bottom)):
            return self.check_bad(text, len(top) + 2)
        return check_ratio(self, ratio_of(text), number)

    def test_too_long(self):
        for digits in (4001, 4300, 4301, 5000, 20000):
            self.check_too_long("1" + "0" * (digits - 1), digits)
            self.check_too_long("-" + "9" * digits, digits)
            self.check_too_long("1/" + "9" * digits, digits)
            self.check_too_long("-" + "9" * digits + "/7", digits)
        self.check_too_long("9" * 4001 + "/" + "7" * 5000, 5000)
        self.check_too_long("9" * 5000 + "/" + "7" * 4001, 5000)
        self.check_too_long("9" * 4000 + "/" + "7" * 4001, 4001)

    def test_a_wrong_sign_comes_before_too_many_digits(self):
        for text, column in [
            ("1" * 4001 + "/x", 4003), ("1" * 5000 + " ", 5001), ("1" * 5000 + "/", 5002), ("0" * 5000, 2),
            ("1" * 5000 + "/0" + "1" * 5000, 5002), ("1" * 20000 + "/2/", 20003), ("+" + "1" * 5000, 1),
        ]:
            self.check_bad(text, column)

    def test_too_many_digits_come_before_a_common_divisor(self):
        self.check_too_long("2" * 4001 + "/2", 4001)
        self.check_too_long("5" * 4001 + "/1", 4001)
        self.check_too_long("2/" + "2" * 4001, 4001)
        self.check_too_long("2" * 5000 + "/" + "2" * 5000, 5000)

    def test_values_that_are_no_strings(self):
        for value in [None, 0, 3, True, 3.0, b"3", ["3"], ("3",), {"3": 3}, Ratio(3), Fraction(3), object()]:
            self.check_bad(value, 1)


if __name__ == "__main__":
    unittest.main()
