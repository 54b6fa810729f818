"""Models: features, values and verdicts, told by one text."""

from hingeworks.errors import NoLine, TooLarge
from hingeworks.features import Features, read_features
from hingeworks.parsing import read_lines
from hingeworks.reading import Reader
from hingeworks.walking import begun

MOST_SWITCHES = 40


class Model:
    """What a text tells."""

    def __init__(self, text):
        reader = Reader(text)
        first = len(read_features(reader))
        features = Features("\n".join(reader.rows[:first]))
        lines = read_lines(reader, features.names)
        self.text = text
        self.features = features
        self.lines = tuple(lines)
        self.names = tuple([line.name for line in lines])
        self.classes = lines[-1].classes
        self.tells = "number" if self.classes == () else "class"
        self.switches = sum([line.switches for line in lines])
        check_switches(self.switches)

    def __eq__(self, other):
        return isinstance(other, Model) and self.text == other.text

    def line_of(self, name):
        """The value or verdict of this name."""
        if not isinstance(name, str) or name not in self.names:
            raise NoLine(name)
        return self.lines[self.names.index(name)]

    def kind_of(self, name):
        """The first word of a value or verdict."""
        return self.line_of(name).kind

    def classes_of(self, name):
        """The classes of a value or verdict."""
        return self.line_of(name).classes

    def walked(self, letters, ask):
        """The result, a plane or a class, if these planes stand for the features and ask answers the switches."""
        return walked_results(self, letters, ask)[-1]

    def all_walked(self, letters, ask):
        """As walked, but a dict from the names of all values and verdicts to their results."""
        return dict(zip(self.names, walked_results(self, letters, ask)))


def check_switches(many):
    """Refuses more switches than there may be."""
    if many > MOST_SWITCHES:
        raise TooLarge("switches", many, MOST_SWITCHES)


def walked_results(model, letters, ask):
    """The list of the results of all values and verdicts."""
    walk = begun(model, letters)
    while walk.plane is not None:
        walk = walk.answered(ask(walk.plane))
    return walk.results[len(letters):]
