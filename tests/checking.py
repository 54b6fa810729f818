"""What the tests share: it adds up and puts in with fractions.Fraction, not with the package."""

from fractions import Fraction

from hingeworks.errors import HingeError
from hingeworks.places import Place
from hingeworks.planes import Plane
from hingeworks.ratios import Ratio


def fraction(ratio):
    return Fraction(ratio.top, ratio.bottom)


def fractions(ratios):
    return tuple(fraction(ratio) for ratio in ratios)


def ratio(number):
    number = Fraction(number)
    return Ratio(number.numerator, number.denominator)


def plane(fixed, *slopes):
    return Plane(ratio(fixed), [ratio(slope) for slope in slopes])


def place(size, *rows):
    """Each row is a text, "> 0" or ">= 0", behind the number and the slopes."""
    made = []
    for *numbers, sign in rows:
        assert sign in (">", ">=") and len(numbers) == size + 1
        made.append((plane(*numbers), sign == ">"))
    return Place(made, size)


def numbers(one):
    """The number and the multiples of a plane."""
    return (fraction(one.fixed), *fractions(one.slopes))


def shown(one):
    """All that a place has, so that a change of it is seen."""
    return one.size, tuple((numbers(row[0]), row[0].row, row[1]) for row in one.rows)


def worth(one, point):
    fixed, *slopes = numbers(one)
    return fixed + sum(slope * Fraction(letter) for slope, letter in zip(slopes, point))


def mixture(weights, one):
    """The number and the multiples of the sum of the weights times the planes."""
    total = [Fraction(0)] * (one.size + 1)
    for weight, (part, _) in zip(weights, one.rows):
        total = [before + weight * number for before, number in zip(total, numbers(part))]
    return tuple(total)


def belongs(one, point):
    for part, strict in one.rows:
        reached = worth(part, point)
        if reached < 0 or (strict and reached == 0):
            return False
    return True


def closed_belongs(one, point):
    return all(worth(part, point) >= 0 for part, _ in one.rows)


def is_inner(one, point):
    flat = [part for part, _ in one.rows if any(numbers(part)[1:])]
    return belongs(one, point) and all(worth(part, point) > 0 for part in flat)


def check_tuple_of_ratios(test, found, size):
    test.assertIs(type(found), tuple)
    test.assertEqual(len(found), size)
    for item in found:
        check_ratio(test, item)


def check_ratio(test, found, number=None):
    test.assertIs(type(found), Ratio)
    test.assertIs(type(found.top), int)
    test.assertIs(type(found.bottom), int)
    test.assertGreater(found.bottom, 0)
    test.assertEqual(Fraction(found.top, found.bottom).denominator, found.bottom)
    if number is not None:
        test.assertEqual(fraction(found), number)


def check_weights(test, weights, one):
    test.assertIs(type(weights), tuple)
    test.assertEqual(len(weights), len(one.rows))
    for weight in weights:
        test.assertIs(type(weight), int)
        test.assertGreaterEqual(weight, 0)


def check_empty_weights(test, weights, one):
    check_weights(test, weights, one)
    total = mixture(weights, one)
    test.assertFalse(any(total[1:]))
    strict = any(weight > 0 and row[1] for weight, row in zip(weights, one.rows))
    test.assertTrue(total[0] < 0 or (total[0] == 0 and strict))


def check_flat_weights(test, weights, one):
    check_weights(test, weights, one)
    total = mixture(weights, one)
    test.assertFalse(any(total[1:]))
    counts = [row[1] or any(numbers(row[0])[1:]) for row in one.rows]
    weighty = any(weight > 0 and counted for weight, counted in zip(weights, counts))
    test.assertTrue(total[0] < 0 or (total[0] == 0 and weighty))


def check_raised(test, error, fields, call, *given):
    """The call raises this very error, and the fields, in the order of the names, are these very values."""
    with test.assertRaises(HingeError) as caught:
        call(*given)
    raised = caught.exception
    test.assertIs(type(raised), error)
    for name, value in fields.items():
        kept = getattr(raised, name)
        test.assertIs(type(kept), type(value))
        test.assertTrue(kept is value or kept == value, (name, kept))


# Values that are neither ratios nor sizes nor indices.
NO_NUMBERS = [True, False, None, "1", "", 1.0, b"1", Fraction(1, 2), (1,), [1], {}, object()]
