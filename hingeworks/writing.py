"""Lines of models, written."""

from hingeworks.reading import LETTERS


def plane_text(plane, names):
    """A plane as models write it; each letter has its name, and those whose multiple is 0 are left out."""
    pieces = [plane.fixed.written()]
    for name, multiple in zip(names, plane.slopes):
        if multiple.top != 0:
            pieces.extend([name, multiple.written()])
    return " ".join(pieces)


def fresh_names(taken, many):
    """As many names, the shortest ones that are not taken."""
    found = []
    names = list(LETTERS)
    while len(found) < many:
        found.extend([name for name in names if name not in taken][:many - len(found)])
        names = [name + letter for name in names for letter in LETTERS]
    return found


def learned_name(features):
    """The name of the line of a learned model."""
    names = ["learned", *["learned" + letter for letter in LETTERS]]
    return [name for name in names if name not in features.names][0]
