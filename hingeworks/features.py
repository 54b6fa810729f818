"""Features: the fractions and yes-or-no questions that an input answers."""

from hingeworks.errors import NoFeature
from hingeworks.planes import letter_plane, number_plane
from hingeworks.ratios import Ratio, as_ratio, as_ratios, is_ratio
from hingeworks.reading import Reader

MOST_FEATURES = 6
MOST_YESNOS = 3


class Feature:
    """One line of features; an end that it does not have is None."""

    def __init__(self, name, is_yesno, low_end, high_end, measure):
        self.name = name
        self.is_yesno = is_yesno
        self.low_end = low_end
        self.high_end = high_end
        self.measure = measure

    def takes(self, value):
        """Whether any value is one of this feature in an input."""
        if not is_ratio(value):
            return False
        ratio = as_ratio(value)
        if self.is_yesno:
            return ratio == 0 or ratio == 1
        if self.low_end is not None and ratio.under(self.low_end):
            return False
        return self.high_end is None or ratio.at_most(self.high_end)


class Features:
    """One to six lines of features."""

    def __init__(self, text):
        reader = Reader(text)
        lines = read_features(reader)
        if not reader.is_over():
            reader.take()
            reader.refuse()
        self.text = text
        self.lines = tuple(lines)
        self.names = tuple([line.name for line in lines])
        self.fractions = tuple([line.name for line in lines if not line.is_yesno])
        self.yesnos = tuple([line.name for line in lines if line.is_yesno])

    def __eq__(self, other):
        return isinstance(other, Features) and self.text == other.text

    def line_of(self, name):
        """The Feature of this name."""
        if not isinstance(name, str) or name not in self.names:
            raise NoFeature(name)
        return self.lines[self.names.index(name)]

    def low(self, name):
        """The low end of a feature, or None."""
        return self.line_of(name).low_end

    def high(self, name):
        """The high end of a feature, or None."""
        return self.line_of(name).high_end

    def unit(self, name):
        """The unit of a feature."""
        return self.line_of(name).measure

    def fits(self, given):
        """Whether any value is an input."""
        if not isinstance(given, tuple) or len(given) != len(self.lines):
            return False
        return all([line.takes(value) for line, value in zip(self.lines, given)])

    def place_rows(self):
        """The rows of all ends of the fractions, feature by feature, the low end first."""
        rows = []
        for place, name in enumerate(self.fractions):
            line = self.line_of(name)
            letter = letter_plane(place, len(self.fractions))
            if line.low_end is not None:
                rows.append((letter - number_plane(line.low_end, letter.size), False))
            if line.high_end is not None:
                rows.append((number_plane(line.high_end, letter.size) - letter, False))
        return tuple(rows)

    def all_settings(self):
        """All settings, ascending."""
        found = [()]
        for _ in self.yesnos:
            found = [(*settings, answer) for settings in found for answer in (0, 1)]
        return tuple(found)

    def letters_for(self, settings):
        """A plane over the fractions for each feature, with these settings for the yes-or-no features."""
        size = len(self.fractions)
        letters = []
        for line in self.lines:
            if line.is_yesno:
                letters.append(number_plane(settings[self.yesnos.index(line.name)], size))
            else:
                letters.append(letter_plane(self.fractions.index(line.name), size))
        return tuple(letters)

    def input_of(self, settings, point):
        """The input that has these settings and the ratios of this point."""
        whole = list(settings)
        ratios = list(point)
        return as_ratios([whole.pop(0) if line.is_yesno else ratios.pop(0) for line in self.lines])

    def settings_of(self, given):
        """The settings of an input."""
        return tuple([as_ratio(value).top for line, value in zip(self.lines, given) if line.is_yesno])

    def fractions_of(self, given):
        """The ratios of an input for the fractions alone, a point."""
        return tuple([as_ratio(value) for line, value in zip(self.lines, given) if not line.is_yesno])


def read_features(reader):
    """Takes lines of features, one at least and as many as there may be, and returns a list of them."""
    lines = [read_feature(reader, [])]
    while reader.ahead() in next_words(lines):
        lines.append(read_feature(reader, lines))
    return lines


def next_words(lines):
    """The words with which another line of a feature may begin."""
    if len(lines) == MOST_FEATURES:
        return ()
    if len([line for line in lines if line.is_yesno]) == MOST_YESNOS:
        return ("fraction",)
    return "fraction", "yesno"


def read_feature(reader, earlier):
    """Takes one line of a feature behind the earlier ones."""
    word = reader.take()
    reader.refuse_unless(word in next_words(earlier))
    name = reader.take_new_name([line.name for line in earlier])
    low_end = Ratio(0)
    high_end = Ratio(1)
    if word == "fraction":
        low_end, high_end = read_ends(reader)
    measure = read_unit(reader)
    reader.end_row()
    return Feature(name, word == "yesno", low_end, high_end, measure)


def read_ends(reader):
    """Takes the two ends of a fraction, as far as they are told."""
    low_end = None
    high_end = None
    if reader.ahead() == "from":
        reader.take()
        low_end = reader.take_ratio()
    if reader.ahead() == "to":
        reader.take()
        high_end = reader.take_ratio()
        reader.refuse_unless(low_end is None or low_end.under(high_end))
    return low_end, high_end


def read_unit(reader):
    """Takes the unit, if one is told; otherwise it is 1."""
    if reader.ahead() != "by":
        return Ratio(1)
    reader.take()
    measure = reader.take_ratio()
    reader.refuse_unless(measure.top > 0 and measure != 1)
    return measure
