"""All errors of the package."""


class HingeError(ValueError):
    """What every error of the package is."""


class BadText(HingeError):
    """A text is not correct from this line and column on; both count from 1."""

    def __init__(self, line, column):
        self.line = line
        self.column = column


class BadName(HingeError):
    """A value is no name, or a name that stands twice."""

    def __init__(self, name):
        self.name = name


class BadNumber(HingeError):
    """A value is not the number that is asked for."""

    def __init__(self, what, number):
        self.what = what
        self.number = number


class BadGiven(HingeError):
    """A value is no point, input, settings or way of the kind that is asked for."""

    def __init__(self, what):
        self.what = what


class BadAnswers(HingeError):
    """An answer is neither 0 nor 1, or no switch is left for it."""

    def __init__(self, place):
        self.place = place


class BadPlace(HingeError):
    """A row of a place is no row."""

    def __init__(self, row):
        self.row = row


class BadTable(HingeError):
    """A row of a table is no row of it."""

    def __init__(self, row):
        self.row = row


class TooLong(HingeError):
    """A number has too many digits to be written or read."""

    def __init__(self, digits):
        self.digits = digits


class TooLarge(HingeError):
    """A model or a place is too large for a question."""

    def __init__(self, what, many, limit):
        self.what = what
        self.many = many
        self.limit = limit


class TooMany(HingeError):
    """A list has too many items for a question."""

    def __init__(self, what, many, limit):
        self.what = what
        self.many = many
        self.limit = limit


class Unlike(HingeError):
    """Two values do not go together, or a value is not of the kind asked for."""

    def __init__(self, what):
        self.what = what


class NotContinuous(HingeError):
    """A model has a jump."""


class NotPlain(HingeError):
    """A feature or a line is not of the plain kind that is asked for."""

    def __init__(self, name):
        self.name = name


class EmptyPlace(HingeError):
    """A place has no point."""


class NotFull(HingeError):
    """The columns of a table have this rank only."""

    def __init__(self, rank):
        self.rank = rank


class NoFeature(HingeError):
    """A value is not the name of a feature."""

    def __init__(self, name):
        self.name = name


class NoLine(HingeError):
    """A value is not the name of a value or verdict."""

    def __init__(self, name):
        self.name = name


class NoModel(HingeError):
    """A value is not the name of a model of the desk."""

    def __init__(self, name):
        self.name = name


class TakenName(HingeError):
    """A name of the desk is taken already."""

    def __init__(self, name):
        self.name = name


class Broken(HingeError):
    """A promise would be broken; an input or a pair of inputs shows it."""

    def __init__(self, promise, given):
        self.promise = promise
        self.given = given


class NothingToUndo(HingeError):
    """No act is left to take back."""


class NothingToRedo(HingeError):
    """No act that was taken back is left to do again."""
