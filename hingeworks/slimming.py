"""Models that are made slimmer: without what no input needs, or without hinges that hardly count."""

from hingeworks.bounds import apart_by
from hingeworks.errors import BadNumber
from hingeworks.formulas import number_formula
from hingeworks.models import check_switches
from hingeworks.parts import met_answers
from hingeworks.ratios import Ratio, as_ratio, is_ratio
from hingeworks.settling import settled, twin_formula, twins
from hingeworks.sketches import names_of, used_places, written_model, written_row
from hingeworks.slopes import check_number_model
from hingeworks.values import HighestLine, best_place
from hingeworks.verdicts import RulesLine, unlike


class Thinned:
    """A model without some of its hinges, the names of these, and an input for each hinge that stays."""

    def __init__(self, model, cut, kept):
        self.model = model
        self.cut = tuple(cut)
        self.kept = tuple(kept)


def slimmed(model):
    """The slimmed model."""
    sketches = replaced_lines(model)
    first = len(model.features.names)
    used = {}
    rows = []
    for number in reversed(range(len(sketches))):
        if number == len(sketches) - 1 or first + number in used:
            rows = [*sketches[number], *rows]
            for place in used_places(sketches[number]):
                used[place] = True
    return written_model(model, rows)


def replaced_lines(model):
    """The sketches of all lines, each one replaced by what has the same results."""
    names = names_of(model)
    choices = dict(settled(model))
    others = {name: (other, ratio) for name, other, ratio in twins(model)}
    found = []
    for line in model.lines:
        if line.name in choices:
            formula = line.choice_formulas()[choices[line.name]]
            found.append([["sum", line.name, formula]])
        elif line.name in others:
            other, ratio = others[line.name]
            formula = twin_formula(names.index(other), model.line_of(other).formula, ratio)
            found.append([["sum", line.name, formula]])
        elif line.kind in SLIMMERS:
            action = SLIMMERS[line.kind]
            found.append(action(model, line))
        else:
            found.append(line.sketch())
    return found


def slim_tree(model, line):
    """The sketch of a tree without the switches that inputs do not need."""
    head, *nodes = line.sketch()
    texts = [written_row(row, names_of(model)) for row in nodes]
    numbers = slim_node(line.nodes, texts, 0, 0, met_answers(model, line))
    classes = unlike([line.nodes[at][1] for at in numbers if line.nodes[at][0] == "class"])
    return [head, *[nodes[at] for at in numbers]] if classes == line.classes else line.sketch()


def slim_node(nodes, texts, at, depth, met):
    """The numbers of the nodes that stay at and below a node at this depth, which these rows of answers reach."""
    word, _, on_place = nodes[at]
    if word != "ask":
        return [at]
    offs = [answers for answers in met if answers[depth] == 0]
    ons = [answers for answers in met if answers[depth] == 1]
    if offs == []:
        return slim_node(nodes, texts, on_place, depth + 1, ons)
    below = slim_node(nodes, texts, at + 1, depth + 1, offs)
    if ons == []:
        return below
    above = slim_node(nodes, texts, on_place, depth + 1, ons)
    if [texts[number] for number in below] == [texts[number] for number in above]:
        return below
    return [at, *below, *above]


def slim_highest(model, line):
    """The sketch of a line "highest" without the planes that are the best one for no input."""
    best = {best_place(answers): True for answers in met_answers(model, line)}
    formulas = [formula for place, formula in enumerate(line.formulas) if place in best]
    return HighestLine(line.name, formulas).sketch()


def slim_rules(model, line):
    """The sketch of rules without those that give the result for no input."""
    given = {}
    for answers in met_answers(model, line):
        number, _ = line.come_to(answers)
        given[number] = True
    made = RulesLine(line.name, [rule for number, rule in enumerate(line.rules) if number in given], line.other_class)
    return made.sketch() if made.classes == line.classes else line.sketch()


SLIMMERS = {"tree": slim_tree, "highest": slim_highest, "rules": slim_rules}


def thinned(model, most):
    """The model without each hinge without which, and without those cut before, no value differs by more than most."""
    check_number_model(model)
    if not is_ratio(most) or as_ratio(most).top < 0:
        raise BadNumber("most", most)
    check_switches(2 * model.switches)
    made = model
    cut = []
    kept = []
    for line in model.lines:
        if line.kind == "hinge":
            tried_model = without_hinges(model, [*cut, line.name])
            given = apart_by(model, tried_model, most)
            if given is None:
                cut.append(line.name)
                made = tried_model
            else:
                kept.append((line.name, given))
    return Thinned(made, cut, kept)


def without_hinges(model, names):
    """The model in which these hinges are cut."""
    rows = []
    for line in model.lines:
        cut_row = ["sum", line.name, number_formula(Ratio(0))]
        rows.extend([cut_row] if line.name in names else line.sketch())
    return written_model(model, rows)
