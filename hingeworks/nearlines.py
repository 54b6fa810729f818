"""The lines of nearest rows: what they ask, and their results."""

from hingeworks.formulas import Formula
from hingeworks.ratios import Ratio, mixed_ratio
from hingeworks.values import Line
from hingeworks.verdicts import most_voted, unlike


class NearLine(Line):
    """The class that most of the nearest rows have.

    The units are pairs (place of the letter among all results, unit); a row is a pair of a class and ratios.
    """

    def __init__(self, name, many, units, rows):
        switches = sum([min(number, many) for number in range(len(rows))])
        Line.__init__(self, name, "near", unlike([told for told, _ in rows]), switches)
        self.many = many
        self.units = tuple(units)
        self.rows = tuple(rows)

    def step(self, results, answers):
        """The next switch, or the result."""
        kept = []
        asked = 0
        for number in range(len(self.rows)):
            place = len(kept)
            is_off = False
            while place > 0 and not is_off:
                if asked == len(answers):
                    return self.nearness(kept[place - 1], number).plane_for(results), None
                is_off = answers[asked] == 0
                asked += 1
                if not is_off:
                    place = place - 1
            kept = [*kept[:place], number, *kept[place:]][:self.many]
        return None, most_voted([self.rows[number][0] for number in kept], self.classes)

    def sketch(self):
        """The text as rows of items; its ratios are pieces, as no question changes them."""
        row = ["near", self.name, str(self.many)]
        for place, measure in self.units:
            row.extend([place, measure.written()])
        rows = [["row", told, *[ratio.written() for ratio in ratios]] for told, ratios in self.rows]
        return [row, *rows]

    def nearness(self, one, other):
        """The distance of the row one less that of the row other, a Formula.

        The difference of two squares (letter - a) and (letter - b) is a * a - b * b + 2 * (b - a) * letter.
        """
        fixed = Ratio(0)
        parts = []
        for (place, measure), a, b in zip(self.units, self.rows[one][1], self.rows[other][1]):
            share = Ratio(1).over(measure * measure)
            gap = b - a
            fixed = mixed_ratio(fixed, [(-gap * (a + b), share)])
            if gap.top != 0:
                parts.append((place, gap * share * 2))
        return Formula(fixed, parts)
