"""Trees: what they ask, and their results.

The nodes of a tree stand in one list in the order of the text, so that trees of any depth can be read.
"""

from hingeworks.values import Line
from hingeworks.verdicts import unlike


class TreeLine(Line):
    """A tree of switches with planes or classes at its ends.

    A node is a triple. Of a switch: "ask", its formula, and the place of the node for on; the node for off is the
    next one. Of an end: "tell" or "class", its formula or class, and None. Its depth is the greatest number of
    switches on a way to an end.
    """

    def __init__(self, name, nodes, depth):
        Line.__init__(self, name, "tree", unlike([told for word, told, _ in nodes if word == "class"]), depth)
        self.nodes = tuple(nodes)

    def step(self, results, answers):
        """The next switch, or the result."""
        at = 0
        for answer in answers:
            at = self.nodes[at][2] if answer == 1 else at + 1
        word, told, _ = self.nodes[at]
        if word == "ask":
            return told.plane_for(results), None
        return None, told.plane_for(results) if word == "tell" else told

    def sketch(self):
        """The text as rows of items."""
        return [["tree", self.name], *[[word, told] for word, told, _ in self.nodes]]

    def choice_formulas(self):
        """The choices."""
        return [told for word, told, _ in self.nodes if word == "tell"]
