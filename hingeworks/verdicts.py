"""The lines of verdicts by planes and by votes, and gates: what they ask, and their results.

Their steps, sketches and choices are those that values.py tells.
"""

from hingeworks.formulas import letter_formula, with_commas
from hingeworks.values import Line, best_place, rival_plane


class SignLine(Line):
    """The first class where a plane is 0 or below, elsewhere the second one."""

    def __init__(self, name, classes, formula):
        Line.__init__(self, name, "sign", classes, 1)
        self.formula = formula

    def step(self, results, answers):
        """The next switch, or the result."""
        if len(answers) == 0:
            return self.formula.plane_for(results), None
        return None, self.classes[answers[0]]

    def sketch(self):
        """The text as rows of items."""
        return [["sign", self.name, *self.classes, self.formula]]


class ChooseLine(Line):
    """The class of the greatest one of some planes, of equal ones the first."""

    def __init__(self, name, classes, formulas):
        Line.__init__(self, name, "choose", classes, len(formulas) - 1)
        self.formulas = tuple(formulas)

    def step(self, results, answers):
        """The next switch, or the result."""
        plane = rival_plane(self.formulas, results, answers)
        if plane is not None:
            return plane, None
        return None, self.classes[best_place(answers)]

    def sketch(self):
        """The text as rows of items."""
        groups = [[told, formula] for told, formula in zip(self.classes, self.formulas)]
        return [["choose", self.name, *with_commas(groups)]]


class RulesLine(Line):
    """The class of the first rule, a pair of a class and planes, whose planes all are above 0."""

    def __init__(self, name, rules, other_class):
        classes = unlike([*[told for told, _ in rules], other_class])
        Line.__init__(self, name, "rules", classes, sum([len(formulas) for _, formulas in rules]))
        self.rules = tuple(rules)
        self.other_class = other_class

    def step(self, results, answers):
        """The next switch, or the result."""
        number, met = self.come_to(answers)
        if number == len(self.rules):
            return None, self.other_class
        told, formulas = self.rules[number]
        if met == len(formulas):
            return None, told
        return formulas[met].plane_for(results), None

    def come_to(self, answers):
        """The number of the rule that the answers have come to, and how many of its planes are on.

        Behind all rules it is how many there are.
        """
        asked = 0
        for number, (_, formulas) in enumerate(self.rules):
            met = 0
            while asked + met < len(answers) and answers[asked + met] == 1:
                met += 1
            if met == len(formulas) or asked + met == len(answers):
                return number, met
            asked = asked + met + 1
        return len(self.rules), 0

    def sketch(self):
        """The text as rows of items."""
        rows = [["if", told, *with_commas([[formula] for formula in formulas])] for told, formulas in self.rules]
        return [["rules", self.name], *rows, ["else", self.other_class]]


class VotesLine(Line):
    """The class that most of some verdicts have."""

    def __init__(self, name, classes, places):
        Line.__init__(self, name, "votes", classes, 0)
        self.places = tuple(places)

    def step(self, results, answers):
        """The next switch, or the result."""
        return None, most_voted([results[place] for place in self.places], self.classes)

    def sketch(self):
        """The text as rows of items."""
        return [["votes", self.name, *self.classes, ":", *self.places]]


class GateLine(Line):
    """The result of the value or verdict that stands behind the class that a verdict has."""

    def __init__(self, name, classes, place, choices):
        Line.__init__(self, name, "gate", classes, 0)
        self.place = place
        self.choices = dict(choices)

    def step(self, results, answers):
        """The next switch, or the result."""
        return None, results[self.choices[results[self.place]]]

    def sketch(self):
        """The text as rows of items."""
        row = ["gate", self.name, self.place]
        for told, place in self.choices.items():
            row.extend([told, place])
        return [row]

    def choice_formulas(self):
        """The choices; a gate of verdicts has none."""
        return [letter_formula(place) for place in self.choices.values()] if self.classes == () else []


def most_voted(votes, classes):
    """The class that stands most often among the votes, of several such classes the first one."""
    best = classes[0]
    for told in classes:
        if votes.count(told) > votes.count(best):
            best = told
    return best


def unlike(names):
    """The names in their order, each once."""
    return tuple({name: True for name in names})
