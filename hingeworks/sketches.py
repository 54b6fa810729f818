"""Lines of models as rows of items, which can be changed and written.

An item is a Formula, a Ratio, a place, which stands for the name of the feature or line there, or a piece of text.
"""

from hingeworks.formulas import Formula
from hingeworks.models import Model
from hingeworks.ratios import Ratio


def names_of(model):
    """The names of all features and lines, each in its place."""
    return (*model.features.names, *model.names)


def written_model(model, rows):
    """The model with the features of a model and with lines that are these rows; places are those of the model."""
    names = names_of(model)
    return Model("\n".join([model.features.text, *[written_row(row, names) for row in rows]]))


def written_row(row, names):
    """The text of a row."""
    return " ".join([written_item(item, names) for item in row])


def written_item(item, names):
    """The text of an item."""
    if isinstance(item, Ratio):
        return item.written()
    if isinstance(item, int):
        return names[item]
    if isinstance(item, Formula):
        pieces = [item.fixed.written()]
        for place, multiple in item.parts:
            pieces.extend([names[place], multiple.written()])
        return " ".join(pieces)
    return item


def used_places(rows):
    """The places of the letters, verdicts and items that rows name."""
    found = []
    for row in rows:
        for item in row:
            if isinstance(item, Formula):
                found.extend([place for place, _ in item.parts])
            elif isinstance(item, int):
                found.append(item)
    return found
