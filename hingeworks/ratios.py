"""Exact fractions."""

from math import gcd, lcm

from hingeworks.errors import BadNumber, BadText, TooLong

MOST_DIGITS = 4000
DIGITS = "0123456789"
# Below this many bits a number surely has fewer digits than Python refuses to write.
PLAIN_BITS = 13000


class Ratio:
    """The fraction top / bottom in its lowest terms, the bottom above 0."""

    def __init__(self, top, bottom=1):
        if bottom == 0:
            raise BadNumber("bottom", 0)
        common = gcd(top, bottom)
        if bottom < 0:
            common = -common
        self.top = top // common
        self.bottom = bottom // common

    def __eq__(self, other):
        if is_integer(other):
            return self.bottom == 1 and self.top == other
        return isinstance(other, Ratio) and self.top == other.top and self.bottom == other.bottom

    def __add__(self, other):
        if not is_ratio(other):
            return NotImplemented
        term = as_ratio(other)
        return Ratio(self.top * term.bottom + term.top * self.bottom, self.bottom * term.bottom)

    def __sub__(self, other):
        if not is_ratio(other):
            return NotImplemented
        term = as_ratio(other)
        return Ratio(self.top * term.bottom - term.top * self.bottom, self.bottom * term.bottom)

    def __mul__(self, other):
        if not is_ratio(other):
            return NotImplemented
        factor = as_ratio(other)
        return Ratio(self.top * factor.top, self.bottom * factor.bottom)

    def __neg__(self):
        return Ratio(-self.top, self.bottom)

    def over(self, other):
        """This ratio divided by the other one."""
        part = as_ratio(other)
        return Ratio(self.top * part.bottom, self.bottom * part.top)

    def compared(self, other):
        """-1, 0 or 1 if this ratio is less than, equal to, greater than the other one."""
        beside = as_ratio(other)
        gap = self.top * beside.bottom - beside.top * self.bottom
        if gap < 0:
            return -1
        return 1 if gap > 0 else 0

    def under(self, other):
        """Whether this ratio is less than the other one."""
        return self.compared(other) < 0

    def at_most(self, other):
        """Whether this ratio is less than or equal to the other one."""
        return self.compared(other) <= 0

    def written(self):
        """The text of this ratio, which ratio_of reads back."""
        digits = max(digits_of(self.top), digits_of(self.bottom))
        if digits > MOST_DIGITS:
            raise TooLong(digits)
        if self.bottom == 1:
            return str(self.top)
        return f"{self.top}/{self.bottom}"


def is_integer(value):
    """Whether any value is an integer; True and False are none."""
    return isinstance(value, int) and not isinstance(value, bool)


def is_ratio(value):
    """Whether any value may be passed where a ratio is expected."""
    return isinstance(value, Ratio) or is_integer(value)


def as_ratio(value):
    """The Ratio that a ratio or an integer stands for."""
    return value if isinstance(value, Ratio) else Ratio(value)


def as_ratios(values):
    """The tuple of the Ratios that ratios or integers stand for."""
    return tuple([as_ratio(value) for value in values])


def mixed_ratio(fixed, pairs):
    """The Ratio that is one Ratio plus the sum of the products of pairs of Ratios.

    It is brought to its lowest terms once, at the end, which is faster than adding up Ratios.
    """
    top = fixed.top
    bottom = fixed.bottom
    for one, other in pairs:
        if one.top != 0 and other.top != 0:
            part = one.bottom * other.bottom
            whole = lcm(bottom, part)
            top = top * (whole // bottom) + one.top * other.top * (whole // part)
            bottom = whole
    return Ratio(top, bottom)


def on_grid(ratio, grid):
    """The multiple of 1 / grid that is nearest to a Ratio, of two such ones the even multiple."""
    multiple, rest = divmod(2 * ratio.top * grid + ratio.bottom, 2 * ratio.bottom)
    if rest == 0 and multiple % 2 == 1:
        multiple = multiple - 1
    return Ratio(multiple, grid)


def greatest_ratio(ratios):
    """The greatest one of some ratios."""
    best = ratios[0]
    for ratio in ratios:
        if best.under(ratio):
            best = ratio
    return best


def ascending(pairs):
    """The pairs of a Ratio and anything else from the least Ratio to the greatest one, as a tuple."""
    whole = 1
    for ratio, _ in pairs:
        whole = lcm(whole, ratio.bottom)
    return tuple(sorted(pairs, key=lambda pair: pair[0].top * (whole // pair[0].bottom)))


def least_whole(ratios):
    """The ratios times one ratio above 0: integers without a common factor, or all 0."""
    bottom = 1
    for ratio in ratios:
        bottom = lcm(bottom, ratio.bottom)
    wholes = [ratio.top * (bottom // ratio.bottom) for ratio in ratios]
    common = 0
    for whole in wholes:
        common = gcd(common, whole)
    if common <= 1:
        return tuple(wholes)
    return tuple([whole // common for whole in wholes])


def digits_of(number):
    """How many digits an integer has, its sign left aside.

    Python refuses to write very long integers, so these are compared with powers of ten.
    """
    size = abs(number)
    if size.bit_length() < PLAIN_BITS:
        return len(str(size))
    powers = [10]
    while powers[-1] <= size:
        powers.append(powers[-1] * powers[-1])
    reached = 1
    digits = 1
    for place in reversed(range(len(powers))):
        if reached * powers[place] <= size:
            reached = reached * powers[place]
            digits = digits + (1 << place)
    return digits


def ratio_of(text):
    """The ratio of a written form."""
    if not isinstance(text, str):
        raise BadText(1, 1)
    column = wrong_column(text)
    if column > 0:
        raise BadText(1, column)
    top, _, bottom = text.partition("/")
    digits = max(len(top.lstrip("-")), len(bottom))
    if digits > MOST_DIGITS:
        raise TooLong(digits)
    if bottom == "":
        return Ratio(int(top))
    if bottom == "1" or gcd(int(top), int(bottom)) > 1:
        raise BadText(1, len(top) + 2)
    return Ratio(int(top), int(bottom))


def wrong_column(text):
    """The first column, from 1, at which no written form continues; 0 if the text has the form of one."""
    if text.startswith("0"):
        return 0 if text == "0" else 2
    start = 1 if text.startswith("-") else 0
    slash = whole_end(text, start)
    if slash == start:
        return start + 1
    if slash == len(text):
        return 0
    if text[slash] != "/":
        return slash + 1
    end = whole_end(text, slash + 1)
    if end == slash + 1 or end < len(text):
        return end + 1
    return 0


def whole_end(text, start):
    """The index behind the digits that begin at start; start itself if there is none or the first is 0."""
    at = start
    while at < len(text) and text[at] in DIGITS:
        if text[start] == "0":
            return start
        at += 1
    return at
