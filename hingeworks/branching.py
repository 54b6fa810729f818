"""Questions that branch: at each switch, only the answers that some point gives are followed."""

from hingeworks.tableau import Tableau
from hingeworks.walking import begun_together


class Branch:
    """Some answers, the rows of their place, its settled tableau, and the walk of the models behind them.

    If no point gives the answers, `blocked` is the place of the line of the tableau that shows it, and there is no
    walk; otherwise it is None.
    """

    def __init__(self, answers, rows, tableau, walk, blocked):
        self.answers = answers
        self.rows = rows
        self.tableau = tableau
        self.walk = walk
        self.blocked = blocked

    def longer(self, answer):
        """The branch behind one more answer."""
        plane = self.walk.plane
        row = (plane, True) if answer == 1 else (-plane, False)
        tableau = self.tableau.with_row(row)
        blocked = tableau.settle()
        walk = self.walk.answered(answer) if blocked is None else None
        return Branch((*self.answers, answer), (*self.rows, row), tableau, walk, blocked)

    def blocked_weights(self):
        """Weights that show that no point gives the answers."""
        return self.tableau.blocked_weights(self.blocked)


def first_branch(rows, pairs):
    """The branch without answers; rows have a point, and pairs are those of models and their letters."""
    _, letters = pairs[0]
    tableau = Tableau(rows, letters[0].size)
    return Branch((), tuple(rows), tableau, begun_together(pairs), tableau.settle())


def first_told(branch, judge):
    """What judge tells of the first complete branch behind this one for which it tells something, or None."""
    if branch.blocked is not None:
        return None
    if branch.walk.plane is None:
        return judge(branch)
    for answer in (0, 1):
        found = first_told(branch.longer(answer), judge)
        if found is not None:
            return found
    return None
