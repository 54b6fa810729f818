"""How the tests judge inputs that a question returns: by evaluating models with tests/reference.py alone."""

from fractions import Fraction

from checking import check_tuple_of_ratios, fractions, ratio
from modeltexts import random_input
from reference import Text


def ratios(*items):
    return tuple(ratio(item) for item in items)


def told_at(text, given):
    """What the reference tells of an input, a Fraction or a class."""
    apart = Text(text)
    return apart.work(dict(zip(apart.names, [Fraction(item) for item in given])))[0]


def check_given(test, text, given):
    """It is an input of the features of a text; returns it as Fractions."""
    apart = Text(text)
    check_tuple_of_ratios(test, given, len(apart.names))
    numbers = fractions(given)
    for name, number in zip(apart.names, numbers):
        if name in apart.yesnos:
            test.assertIn(number, (0, 1))
        else:
            low, high = apart.end(name, "from"), apart.end(name, "to")
            test.assertTrue(low is None or low <= number)
            test.assertTrue(high is None or number <= high)
    return numbers


def check_differ_only_in(test, text, name, one, other):
    """Both are inputs, unlike in this feature and equal in all others."""
    pairs = zip(Text(text).names, check_given(test, text, one), check_given(test, text, other))
    test.assertEqual([feature for feature, here, there in pairs if here != there], [name])


def random_given(rng, text):
    """An input of the features of a text, as Ratios."""
    return ratios(*random_input(rng, Text(text)))


def range_rows(text):
    """The rows of the ends of the fractions, as the reference tells them."""
    apart = Text(text)
    rows = []
    for place, name in enumerate(apart.fractions):
        letter = [1 if at == place else 0 for at in range(len(apart.fractions))]
        low, high = apart.end(name, "from"), apart.end(name, "to")
        if low is not None:
            rows.append((-low, *letter))
        if high is not None:
            rows.append((high, *[-share for share in letter]))
    return rows


def moved(point, way, step):
    return tuple(here + step * share for here, share in zip(point, way))


def hyperplane(row):
    """The row of the hyperplane of a plane that is not a number, told by Fractions, the number first."""
    bottom = 1
    for item in row:
        bottom = bottom * item.denominator
    wholes = [int(item * bottom) for item in row]
    common = 0
    for whole in wholes:
        common = gcd_of(common, whole)
    sign = 1 if next(whole for whole in wholes[1:] if whole) > 0 else -1
    return tuple(sign * whole // common for whole in wholes)


def gcd_of(one, other):
    while other:
        one, other = other, one % other
    return abs(one)
