import random
import unittest

from checking import check_raised
from hingeworks.alike import apart
from hingeworks.errors import TooLarge, TooLong
from hingeworks.models import Model
from hingeworks.treeing import tree_of
from hingeworks.unfolding import unfolded
from judging import told_at
from modeltexts import random_input, some_texts
from reference import Text
from slimmer import plane_text

UNIT = "fraction x from 0 to 1\n"
X = "fraction x\n"
# Each of its 40 planes behind the first one is greater than all before it from some x on.
RAMP = "highest h " + " , ".join(["0"] + [f"-{at * (at + 1) // 2} x {at}" for at in range(1, 41)])


def told_rows(taken, settings, given, answers):
    """The rows of the tree behind some answers; given are the starts of the rows of answers that inputs give."""
    word, told = taken.told_after(settings, answers)
    if word == "told":
        if isinstance(told, str):
            return ["class " + told]
        return ["tell " + plane_text(told[0], zip(taken.fractions, told[1:]))]
    ways = [answer for answer in (0, 1) if (*answers, answer) in given]
    below = [told_rows(taken, settings, given, (*answers, answer)) for answer in ways]
    if len(ways) == 1:
        return below[0]
    return ["ask " + plane_text(told[0], zip(taken.fractions, told[1:])), *below[0], *below[1]]


def tree_text(text):
    """The text of [68], made from the answers of the leaves alone."""
    taken = Text(text)
    nodes = {}
    for leaf in unfolded(Model(text)).leaves:
        nodes.setdefault(leaf.settings, set()).update(leaf.answers[:many] for many in range(len(leaf.answers) + 1))
    nodes = {settings: told_rows(taken, settings, given, ()) for settings, given in nodes.items()}
    rows = [" ".join(row) for row in taken.features] + ["tree " + taken.blocks[-1][0][1]]
    return "\n".join(rows + asked_rows(taken.yesnos, nodes, ()))


def asked_rows(yesnos, nodes, settings):
    if len(settings) == len(yesnos):
        return nodes[settings]
    return [f"ask -1/2 {yesnos[len(settings)]} 1", *asked_rows(yesnos, nodes, (*settings, 0)),
            *asked_rows(yesnos, nodes, (*settings, 1))]


def told_row(leaf):
    told = leaf.told[0]
    return told if isinstance(told, str) else told.row + (told.fixed.top, told.fixed.bottom)


class TreeingTest(unittest.TestCase):
    def check(self, text, expected=None):
        model = Model(text)
        found = tree_of(model)
        self.assertIs(type(found), Model)
        self.assertEqual(found.text, tree_text(text))
        if expected is not None:
            self.assertEqual(found.text, expected)
        self.assertEqual((found.names, found.kind_of(found.names[0])), (model.names[-1:], "tree"))
        self.assertEqual((found.tells, found.features), (model.tells, model.features))
        before, after = unfolded(model).leaves, unfolded(found).leaves
        self.assertEqual(len(before), len(after))
        for one, other in zip(before, after):
            self.assertEqual((one.settings, told_row(one)), (other.settings, told_row(other)))
            self.assertEqual(other.answers[:len(one.settings)], one.settings)
            self.assertTrue(other.place.holds(one.point) and one.place.holds(other.point))
        # The tree of a tree is the tree itself.
        self.assertEqual(tree_of(found).text, found.text)
        return found

    def check_lines(self, features, lines, expected):
        self.check(features + lines, features + expected)

    def test_numbers(self):
        for lines, expected in [
            ("sum f 1 x 2", "tree f\ntell 1 x 2"), ("hinge f 0 x 1", "tree f\nask 0 x 1\ntell 0\ntell 0 x 1"),
            ("leaky f -2 1 x 3", "tree f\nask 1 x 3\ntell -2 x -6\ntell 1 x 3"),
            ("clip f 0 1/2 0 x 1", "tree f\nask 0 x 1\ntell 0\nask -1/2 x 1\ntell 0 x 1\ntell 1/2"),
            ("highest f 0 , 0 x 1 , 1 x -1", "tree f\nask 0 x 1\ntell 1 x -1\nask 1 x -2\ntell 0 x 1\ntell 1 x -1"),
            ("hinge a -1 x 2\nhinge b 1 x -2\nsum f 0 a 1 b 1",
             "tree f\nask -1 x 2\nask 1 x -2\ntell 0\ntell 1 x -2\ntell -1 x 2"),
            ("tree t\nask 1 x 1\ntell 9\ntell 0 x 1", "tree t\nask 1 x 1\ntell 9\ntell 0 x 1"),
        ]:
            self.check_lines(X, lines, expected)
        self.check_lines(UNIT, "hinge f 1 x 1", "tree f\ntell 1 x 1")
        self.check_lines(UNIT, "hinge a -2 x 1\nhinge f 1/2 x -1 a 1", "tree f\nask 1/2 x -1\ntell 0\ntell 1/2 x -1")

    def test_classes(self):
        self.check_lines(X, "sign s no yes 0 x 1", "tree s\nask 0 x 1\nclass no\nclass yes")
        self.check_lines(UNIT, "sign s no yes 1 x 1", "tree s\nclass yes")
        self.check_lines(X, "near n 1 x 1\nrow b 0\nrow a 2\nrow b 4",
                         "tree n\nask -4 x 4\nclass b\nask -12 x 4\nclass a\nclass b")
        self.check_lines(X, "sign a no yes 0 x 1\nsign b no yes -1 x 1\nvotes v yes no : a b",
                         "tree v\nask 0 x 1\nclass no\nask -1 x 1\nclass yes\nclass yes")
        self.check_lines(X, "rules r\nif a 0 x 1 , 1 x -1\nif b -2 x 1\nelse c",
                         "tree r\nask 0 x 1\nclass c\nask 1 x -1\nask -2 x 1\nclass c\nclass b\nclass a")

    def test_yes_or_no_features_come_first(self):
        self.check_lines("yesno u\nfraction x\nyesno v by 2\n", "hinge f 0 u 1 x 1 v -1",
                         "tree f\nask -1/2 u 1\nask -1/2 v 1\nask 0 x 1\ntell 0\ntell 0 x 1\nask -1 x 1\ntell 0\ntell -1 x 1\n"
                         "ask -1/2 v 1\nask 1 x 1\ntell 0\ntell 1 x 1\nask 0 x 1\ntell 0\ntell 0 x 1")
        # A switch that has one answer with some settings alone; both settings are asked even if nothing depends on them.
        self.check_lines("yesno u\n" + UNIT, "hinge f -1 u 1 x 1/2",
                         "tree f\nask -1/2 u 1\ntell 0\nask 0 x 1/2\ntell 0\ntell 0 x 1/2")
        self.check_lines("yesno u\n" + X, "sum f 0 x 1", "tree f\nask -1/2 u 1\ntell 0 x 1\ntell 0 x 1")
        self.check_lines("yesno u\nyesno v\n", "sign s no yes -3/2 u 1 v 1",
                         "tree s\nask -1/2 u 1\nask -1/2 v 1\nclass no\nclass no\nask -1/2 v 1\nclass no\nclass yes")
        self.check_lines("yesno u\n", "sum f 1 u -1/3", "tree f\nask -1/2 u 1\ntell 1\ntell 2/3")

    def test_thin_leaves_and_lines_that_nothing_uses(self):
        dot = "tree t\nask 0 x 1 y -1\nask 0 x -1 y 1\ntell 5\ntell 0\ntell 1"
        self.check_lines("fraction x\nfraction y\n", dot, dot)
        self.check_lines(UNIT, "hinge a 0 x -1\nhinge b 0 x 1\nsum f 2", "tree f\nask 0 x 1\ntell 2\ntell 2")
        self.check_lines(X, "sign a no yes -1/3 x 1\nsum f 2", "tree f\nask -1/3 x 1\ntell 2\ntell 2")

    def test_the_name_and_the_features_stay(self):
        features = "fraction tree from -1/3 by 1/7\nfraction ask to 2\n"
        self.check_lines(features, "hinge a 0 tree 1\nsum tell 0 ask 1 a -1",
                         "tree tell\nask 0 tree 1\ntell 0 ask 1\ntell 0 tree -1 ask 1")

    def test_many_models(self):
        rng = random.Random(521)
        deep = 0
        for text in some_texts(rng, 100, 4):
            if Model(text).switches <= 16:
                found = self.check(text)
                deep += found.switches > 3
                if found.switches + Model(text).switches <= 40:
                    self.assertIsNone(apart(Model(text), found))
                given = random_input(rng, Text(text))
                self.assertEqual(told_at(text, given), told_at(found.text, given))
        self.assertGreater(deep, 15)

    def test_forty_switches_on_a_way(self):
        steps = [f"hinge {one}{other} -{number} x 1" for number, (one, other) in
                 enumerate(((one, other) for one in "abcd" for other in "abcdefghij"), 1)]
        for lines in (RAMP, "\n".join(steps)):
            found = tree_of(Model(X + lines))
            self.assertEqual(found.switches, 40)
            check_raised(self, TooLarge, {"what": "switches", "many": 41, "limit": 40}, tree_of, Model("yesno u\n" + X + lines))
            check_raised(self, TooLarge, {"what": "switches", "many": 43, "limit": 40}, tree_of,
                         Model("yesno u\nyesno v\nyesno w\n" + X + lines))
        # One way less has both answers, so it is not too deep.
        self.assertEqual(tree_of(Model("yesno u\nfraction x to 40\n" + "\n".join(steps))).switches, 40)

    def test_numbers_that_are_too_long(self):
        long = "1" + "0" * 3000
        for power, digits in [(999, None), (1000, 4001), (1234, 4235)]:
            other = "1" + "0" * power
            for first, second in [(long, other), ("1/" + long, "1/" + other)]:
                model = Model(X + f"sum a 0 x {first}\nhinge f 0 a {second}")
                if digits is None:
                    self.assertEqual(tree_of(model).kind_of("f"), "tree")
                else:
                    check_raised(self, TooLong, {"digits": digits}, tree_of, model)
        # The first number of the text that is too long: the switch stands ahead of the ends.
        lines = f"sum a 0 x {long}\nhinge b 1 a 1{'0' * 1000}\nsum f 0 b 1{'0' * 100}"
        check_raised(self, TooLong, {"digits": 4001}, tree_of, Model(X + lines))
        lines = f"sum a 0 x {long}\nsign s no yes 0 x 1\nsum b 0 a 1{'0' * 1200}\nsum c 0 a 1{'0' * 1100}\ngate f s no b yes c"
        check_raised(self, TooLong, {"digits": 4201}, tree_of, Model(X + lines))
        # TooLarge comes ahead of it.
        lines = f"sum l 0 x {long}\nsum k 0 l {long}\n{RAMP}\nsum f 0 k 1 h 1"
        check_raised(self, TooLong, {"digits": 6001}, tree_of, Model(X + lines))
        check_raised(self, TooLarge, {"what": "switches", "many": 41, "limit": 40}, tree_of, Model("yesno u\n" + X + lines))

    def test_asked_again(self):
        model = Model(X + "hinge f 0 x 1")
        self.assertEqual(tree_of(model).text, tree_of(model).text)
        self.assertEqual(model.text, X + "hinge f 0 x 1")


if __name__ == "__main__":
    unittest.main()
