"""Texts that are read piece by piece, and the ratios and names that pieces tell."""

from hingeworks.errors import BadText, TooLong
from hingeworks.ratios import ratio_of

MOST_LETTERS = 12
LETTERS = "abcdefghijklmnopqrstuvwxyz"


class Reader:
    """Stands in a text before its next piece.

    Pieces are taken in the order of the text, and each is refused before the next one is taken; so what is
    refused, or is missing, is the first wrong place of the text.
    """

    def __init__(self, text):
        if not isinstance(text, str):
            raise BadText(1, 1)
        self.rows = text.split("\n")
        self.row = 0
        self.begin_row()

    def begin_row(self):
        """Stands before the first piece of the current row, if there is one."""
        self.pieces = [] if self.is_over() else self.rows[self.row].split(" ")
        self.taken = 0
        self.column = 1
        self.next_column = 1

    def is_over(self):
        """Whether no row is left."""
        return self.row == len(self.rows)

    def ahead(self):
        """The next piece of the row, or None at its end."""
        return self.pieces[self.taken] if self.taken < len(self.pieces) else None

    def take(self):
        """Goes behind the next piece of the row and returns it; here a row or the text must not end."""
        if self.is_over():
            raise BadText(len(self.rows) + 1, 1)
        if self.taken == len(self.pieces):
            raise BadText(self.row + 1, len(self.rows[self.row]) + 1)
        piece = self.pieces[self.taken]
        self.taken += 1
        self.column = self.next_column
        self.next_column = self.column + len(piece) + 1
        return piece

    def refuse(self):
        """Tells that the piece that was taken last is wrong."""
        raise BadText(self.row + 1, self.column)

    def refuse_unless(self, is_right):
        """Tells that the piece that was taken last is wrong, unless it is right."""
        if not is_right:
            self.refuse()

    def end_row(self):
        """Goes to the next row; here this one has to end."""
        if self.ahead() is not None:
            self.take()
            self.refuse()
        self.row += 1
        self.begin_row()

    def take_ratio(self):
        """Takes a piece that tells a ratio, and returns the ratio."""
        ratio = told_ratio(self.take())
        self.refuse_unless(ratio is not None)
        return ratio

    def take_name(self):
        """Takes a piece that is a name."""
        piece = self.take()
        self.refuse_unless(is_name(piece))
        return piece

    def take_new_name(self, taken):
        """Takes a piece that is a name and none of those that are taken."""
        piece = self.take_name()
        self.refuse_unless(piece not in taken)
        return piece


def told_ratio(piece):
    """The ratio that a piece tells, or None if it tells none."""
    try:
        return ratio_of(piece)
    except (BadText, TooLong):
        return None


def is_name(value):
    """Whether any value is a name."""
    if not isinstance(value, str) or value == "" or len(value) > MOST_LETTERS:
        return False
    return all([letter in LETTERS for letter in value])
