"""What single lines of a model come to, for all inputs: only the lines that they need are unfolded."""

from hingeworks.branching import first_branch
from hingeworks.ratios import Ratio
from hingeworks.sketches import used_places
from hingeworks.twofold import input_found, nonzero_point
from hingeworks.values import SumLine


class Part:
    """Some lines of a model and its features; it is walked as a model is."""

    def __init__(self, features, lines):
        self.features = features
        self.lines = tuple(lines)


class Unneeded:
    """Stands in the place of a line whose result nothing reads."""

    def step(self, results, answers):
        """No switch, and no result."""
        return None, None


class Traced:
    """A line whose result is the row of its answers."""

    def __init__(self, line):
        self.line = line

    def step(self, results, answers):
        """The next switch, or the result."""
        plane, _ = self.line.step(results, answers)
        return plane, answers if plane is None else None


def part_of(model, places, last):
    """The lines that the results in these places need, and one last line behind them."""
    first = len(model.features.names)
    needed = {place: True for place in places}
    end = max([first, *[place + 1 for place in places]])
    for place in reversed(range(first, end)):
        if place in needed:
            for used in used_places(model.lines[place - first].sketch()):
                needed[used] = True
    lines = [model.lines[place - first] if place in needed else Unneeded() for place in range(first, end)]
    return Part(model.features, [*lines, last])


def result_part(model):
    """The lines that the result of a model needs, as a Part."""
    last = model.lines[-1]
    return part_of(model, used_places(last.sketch()), last)


def unequal_input(model, place, formula):
    """An input for which the value in this place is not equal to a formula of earlier letters, or None."""
    gap = formula.scaled(Ratio(-1)).with_part(place, Ratio(1))
    part = part_of(model, used_places([[gap]]), SumLine("gap", gap))
    return input_found([part], lambda told, tableau: nonzero_point(told[0], tableau))


def met_answers(model, line):
    """All rows of answers that inputs give to the switches of a line, each once."""
    part = part_of(model, used_places(line.sketch()), Traced(line))
    rows = part.features.place_rows()
    found = {}
    for settings in part.features.all_settings():
        note_told(first_branch(rows, [(part, part.features.letters_for(settings))]), found)
    return list(found)


def note_told(branch, found):
    """Notes in a dict what is told behind a branch."""
    if branch.blocked is not None:
        return
    if branch.walk.plane is None:
        found[branch.walk.told[0]] = True
        return
    for answer in (0, 1):
        note_told(branch.longer(answer), found)
