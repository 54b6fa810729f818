"""Planes as models write them: over the letters, which are features and earlier values."""

from hingeworks.planes import mixed_plane
from hingeworks.ratios import Ratio, mixed_ratio


class Formula:
    """A number plus a multiple of each of some letters; pairs (place of the letter among all results, multiple)."""

    def __init__(self, fixed, parts):
        self.fixed = fixed
        self.parts = tuple(parts)

    def plane_for(self, results):
        """The plane that this is, if the results of features and lines stand for the letters."""
        pairs = [(multiple, results[place]) for place, multiple in self.parts]
        return mixed_plane(self.fixed, pairs, results[0].size)

    def worth_for(self, values):
        """The Ratio that this is, if the values of features and lines stand for the letters."""
        return mixed_ratio(self.fixed, [(multiple, values[place]) for place, multiple in self.parts])

    def scaled(self, ratio):
        """This formula times a Ratio; a letter whose multiple is 0 is left out."""
        if ratio.top == 0:
            return Formula(ratio, [])
        return Formula(self.fixed * ratio, [(place, multiple * ratio) for place, multiple in self.parts])

    def with_part(self, place, multiple):
        """This formula plus a multiple of a letter that stands behind its own ones."""
        return Formula(self.fixed, [*self.parts, (place, multiple)])


def number_formula(ratio):
    """The formula that is a number."""
    return Formula(ratio, [])


def letter_formula(place):
    """The formula that is one letter."""
    return Formula(Ratio(0), [(place, Ratio(1))])


def with_commas(groups):
    """The items of some lists in one list, with a "," between any two lists."""
    items = list(groups[0])
    for group in groups[1:]:
        items.extend([",", *group])
    return items


def read_formula(reader, letters):
    """Takes a plane, whose letters are keys of a dict with their places; ends before a "," or at the end of the row."""
    fixed = reader.take_ratio()
    parts = []
    last = -1
    while reader.ahead() is not None and reader.ahead() != ",":
        last, multiple = read_part(reader, letters, last)
        parts.append((last, multiple))
    return Formula(fixed, parts)


def read_part(reader, letters, last):
    """Takes a letter that stands behind the last one, and its multiple."""
    letter = reader.take()
    reader.refuse_unless(letter in letters and letters[letter] > last)
    multiple = reader.take_ratio()
    reader.refuse_unless(multiple.top != 0)
    return letters[letter], multiple


def read_formulas(reader, letters):
    """Takes one or more planes with a "," between any two."""
    found = [read_formula(reader, letters)]
    while reader.ahead() == ",":
        reader.take()
        found.append(read_formula(reader, letters))
    return found
