"""The lines of values and verdicts, read from a text."""

from hingeworks.formulas import read_formula, read_formulas
from hingeworks.nearlines import NearLine
from hingeworks.ratios import Ratio
from hingeworks.trees import TreeLine
from hingeworks.values import ClipLine, HighestLine, HingeLine, SumLine
from hingeworks.verdicts import ChooseLine, GateLine, RulesLine, SignLine, VotesLine, unlike

MOST_LINES = 40


class Known:
    """What the lines so far have named; places count the features first, then the values and verdicts."""

    def __init__(self, names):
        self.taken = {name: place for place, name in enumerate(names)}
        self.letters = dict(self.taken)
        self.lines = []
        self.numbers = {}
        self.verdicts = {}

    def keep(self, line):
        """Makes a line known to the later ones."""
        place = len(self.taken)
        self.lines.append(line)
        self.taken[line.name] = place
        if line.classes == ():
            self.letters[line.name] = place
            self.numbers[line.name] = place
        else:
            self.verdicts[line.name] = place

    def classes_at(self, place):
        """The classes of the value or verdict in this place."""
        return self.lines[place - len(self.taken) + len(self.lines)].classes


def read_lines(reader, names):
    """Takes all values and verdicts, and returns a list of them; names are those of the features."""
    known = Known(names)
    while known.lines == [] or not reader.is_over():
        word = reader.take()
        reader.refuse_unless(word in READERS and len(known.lines) < MOST_LINES)
        reader.refuse_unless(known.verdicts != {} or word not in ("votes", "gate"))
        name = reader.take_new_name(known.taken)
        action = READERS[word]
        known.keep(action(reader, known, name))
    return known.lines


def read_sum(reader, known, name):
    """Takes the rest of a line "sum"."""
    formula = read_formula(reader, known.letters)
    reader.end_row()
    return SumLine(name, formula)


def read_hinge(reader, known, name):
    """Takes the rest of a line "hinge"."""
    formula = read_formula(reader, known.letters)
    reader.end_row()
    return HingeLine(name, "hinge", Ratio(0), formula)


def read_leaky(reader, known, name):
    """Takes the rest of a line "leaky"."""
    factor = reader.take_ratio()
    formula = read_formula(reader, known.letters)
    reader.end_row()
    return HingeLine(name, "leaky", factor, formula)


def read_clip(reader, known, name):
    """Takes the rest of a line "clip"."""
    low_end = reader.take_ratio()
    high_end = reader.take_ratio()
    reader.refuse_unless(low_end.under(high_end))
    formula = read_formula(reader, known.letters)
    reader.end_row()
    return ClipLine(name, low_end, high_end, formula)


def read_highest(reader, known, name):
    """Takes the rest of a line "highest"."""
    formulas = read_formulas(reader, known.letters)
    if len(formulas) == 1:
        # The row has ended, and only a "," could stand here; so taking a piece tells that it ends too early.
        reader.take()
    reader.end_row()
    return HighestLine(name, formulas)


def read_tree(reader, known, name):
    """Takes the rest of a line "tree" and its nodes.

    A switch waits until its node for off is complete; behind an end the node for on of the last one follows.
    """
    reader.end_row()
    nodes = []
    waiting = []
    deepest = 0
    depth = 0
    end_words = ("tell", "class")
    while depth >= 0:
        word, told = read_node(reader, known, end_words)
        nodes.append((word, told, None))
        if word == "ask":
            waiting.append((len(nodes) - 1, depth))
            depth += 1
            continue
        end_words = (word,)
        deepest = max(deepest, depth)
        depth = -1
        if waiting != []:
            at, depth = waiting.pop()
            depth += 1
            nodes[at] = ("ask", nodes[at][1], len(nodes))
    return TreeLine(name, nodes, deepest)


def read_node(reader, known, end_words):
    """Takes the line of a node: a switch, or an end with one of these words."""
    word = reader.take()
    reader.refuse_unless(word == "ask" or word in end_words)
    told = reader.take_name() if word == "class" else read_formula(reader, known.letters)
    reader.end_row()
    return word, told


def read_sign(reader, known, name):
    """Takes the rest of a line "sign"."""
    first = reader.take_name()
    second = reader.take_new_name([first])
    formula = read_formula(reader, known.letters)
    reader.end_row()
    return SignLine(name, [first, second], formula)


def read_choose(reader, known, name):
    """Takes the rest of a line "choose"."""
    classes = [reader.take_name()]
    formulas = [read_formula(reader, known.letters)]
    while len(classes) == 1 or reader.ahead() == ",":
        reader.refuse_unless(reader.take() == ",")
        classes.append(reader.take_new_name(classes))
        formulas.append(read_formula(reader, known.letters))
    reader.end_row()
    return ChooseLine(name, classes, formulas)


def read_rules(reader, known, name):
    """Takes the rest of a line "rules" and its rules."""
    reader.end_row()
    rules = []
    word = reader.take()
    while word == "if":
        told = reader.take_name()
        rules.append((told, read_formulas(reader, known.letters)))
        reader.end_row()
        word = reader.take()
    reader.refuse_unless(word == "else")
    other_class = reader.take_name()
    reader.end_row()
    return RulesLine(name, rules, other_class)


def read_near(reader, known, name):
    """Takes the rest of a line "near" and its rows."""
    word = reader.take()
    reader.refuse_unless(word in ("1", "2", "3"))
    many = int(word)
    units = read_units(reader, known.letters)
    reader.end_row()
    rows = []
    while len(rows) < many or reader.ahead() == "row":
        reader.refuse_unless(reader.take() == "row")
        told = reader.take_name()
        rows.append((told, [reader.take_ratio() for _ in units]))
        reader.end_row()
    return NearLine(name, many, units, rows)


def read_units(reader, letters):
    """Takes one or more letters with their units, and returns pairs (place, unit)."""
    units = []
    last = -1
    while units == [] or reader.ahead() is not None:
        letter = reader.take()
        reader.refuse_unless(letter in letters and letters[letter] > last)
        last = letters[letter]
        measure = reader.take_ratio()
        reader.refuse_unless(measure.top > 0)
        units.append((last, measure))
    return units


def read_votes(reader, known, name):
    """Takes the rest of a line "votes"."""
    classes = [reader.take_name()]
    while reader.ahead() != ":":
        classes.append(reader.take_new_name(classes))
    reader.take()
    fitting = {}
    for verdict, place in known.verdicts.items():
        if all([told in classes for told in known.classes_at(place)]):
            fitting[verdict] = place
    reader.refuse_unless(fitting != {})
    places = []
    while places == [] or reader.ahead() is not None:
        verdict = reader.take()
        reader.refuse_unless(verdict in fitting)
        places.append(fitting[verdict])
    reader.end_row()
    return VotesLine(name, classes, places)


def read_gate(reader, known, name):
    """Takes the rest of a line "gate"."""
    verdict = reader.take()
    reader.refuse_unless(verdict in known.verdicts)
    place = known.verdicts[verdict]
    fitting = {**known.numbers, **known.verdicts}
    choices = []
    classes = []
    for told in known.classes_at(place):
        reader.refuse_unless(reader.take() == told)
        chosen = reader.take()
        reader.refuse_unless(chosen in fitting)
        choices.append((told, fitting[chosen]))
        classes = [*classes, *known.classes_at(fitting[chosen])]
        fitting = known.numbers if chosen in known.numbers else known.verdicts
    reader.end_row()
    return GateLine(name, unlike(classes), place, choices)


READERS = {
    "sum": read_sum, "hinge": read_hinge, "leaky": read_leaky, "clip": read_clip, "highest": read_highest,
    "tree": read_tree, "gate": read_gate, "sign": read_sign, "choose": read_choose, "rules": read_rules,
    "near": read_near, "votes": read_votes,
}
