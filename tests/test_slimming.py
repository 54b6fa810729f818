import random
import unittest
from fractions import Fraction

from checking import NO_NUMBERS, check_raised, fractions, ratio
from hingeworks.alike import apart
from hingeworks.bounds import above
from hingeworks.errors import BadNumber, TooLarge, TooLong, Unlike
from hingeworks.models import Model
from hingeworks.ratios import Ratio
from hingeworks.slimming import Thinned, slimmed, thinned
from judging import check_given, told_at
from modeltexts import random_input, some_texts
from reference import Text
from slimmer import slimmed_text
from test_settling import hinge_text

UNIT = "fraction x from 0 to 1\n"
X = "fraction x\n"
SQUARE = "fraction x from 0 to 1\nfraction y from 0 to 1\n"
HALF = Fraction(1, 2)


class SlimmedTest(unittest.TestCase):
    def check(self, text, expected):
        """The slimmed text; slimmed again it is the same, and it tells the same."""
        model = Model(text)
        found = slimmed(model)
        self.assertIs(type(found), Model)
        self.assertEqual(found.text, expected)
        self.assertEqual(slimmed(found).text, expected)
        self.assertLessEqual(found.switches, model.switches)
        if found.switches + model.switches <= 40:
            self.assertIsNone(apart(model, found))

    def check_lines(self, features, lines, expected):
        self.check(features + lines, features + expected)

    def test_settled_values_become_sums(self):
        for line, expected in [
            ("hinge f -1 x 1", "sum f 0"), ("hinge f 0 x 1", "sum f 0 x 1"), ("leaky f 2/3 -1 x 1/2", "sum f -2/3 x 1/3"),
            ("leaky f 0 -1 x 1", "sum f 0"), ("leaky f -2 1/2 x 1", "sum f 1/2 x 1"), ("clip f 0 1 0 x 1", "sum f 0 x 1"),
            ("clip f -1 -1/2 0 x 1", "sum f -1/2"), ("clip f 1 2 0 x 1", "sum f 1"), ("highest f -1 , 0 x 2 , -3 x 1", "sum f 0 x 2"),
            ("tree f\nask -2 x 1\ntell 3 x -1\ntell 0", "sum f 3 x -1"), ("hinge f 0", "sum f 0"), ("sum f 7", "sum f 7"),
        ]:
            self.check_lines(UNIT, line, expected)
        self.check_lines(UNIT, "hinge a -1/2 x 1\nsum b 1\nsign s no yes -1 x 1\ngate f s no a yes b",
                         "hinge a -1/2 x 1\nsum f 0 a 1")

    def test_twins_become_sums(self):
        both = "hinge u -1/2 x 1\nhinge v {}\nsum f 0 u 1 v 1"
        for plane, made in [("-1 x 2", "0 u 2"), ("1/4 x -1/2", "1/4 x -1/2 u 1/2"), ("1/2 x -1", "1/2 x -1 u 1")]:
            self.check_lines(UNIT, both.format(plane), f"hinge u -1/2 x 1\nsum v {made}\nsum f 0 u 1 v 1")
        # The plane of the line of u, with values as letters; its number and its multiples may be 0.
        self.check_lines(X, "hinge a 0 x 1\nhinge u 1 x 1 a -3\nhinge v -2 x -2 a 6\nsum f 0 a 1 u 1 v 1",
                         "hinge a 0 x 1\nhinge u 1 x 1 a -3\nsum v -2 x -2 a 6 u 2\nsum f 0 a 1 u 1 v 1")
        self.check_lines(X, "hinge u 0 x 1\nhinge v 0 x -1/3\nsum f 0 u 1 v 1", "hinge u 0 x 1\nsum v 0 x -1/3 u 1/3\nsum f 0 u 1 v 1")
        self.check_lines(X, "hinge u -1/2 x 1\nhinge v -1 x 2", "hinge u -1/2 x 1\nsum v 0 u 2")
        # Each names its first twin, so the second one is not used any more.
        self.check_lines(X, "hinge u -1/2 x 1\nhinge v 1/2 x -1\nhinge w 1 x -2",
                         "hinge u -1/2 x 1\nsum w 1 x -2 u 2")

    def test_trees(self):
        for nodes, expected in [
            # Lines "ask" with one answer gone, at the top and below.
            ("ask -2 x 1\nask -1/2 x 1\ntell 0\ntell 1\ntell 9", "ask -1/2 x 1\ntell 0\ntell 1"),
            ("ask 1 x 1\ntell 9\nask -1/2 x 1\ntell 0\ntell 1", "ask -1/2 x 1\ntell 0\ntell 1"),
            ("ask -1/2 x 1\nask -3/4 x 1\ntell 0\ntell 1\nask -1/4 x 1\ntell 2\ntell 3", "ask -1/2 x 1\ntell 0\ntell 3"),
            # Equal texts, innermost first.
            ("ask -1/2 x 1\nask -1/4 x 1\ntell 3\ntell 3\ntell 5", "ask -1/2 x 1\ntell 3\ntell 5"),
            ("ask -1/4 x 1\ntell 1\nask -1/2 x 1\nask -1/3 x 1\ntell 2\ntell 2\nask -3/4 x 1\ntell 2\ntell 2",
             "ask -1/4 x 1\ntell 1\ntell 2"),
            # They are equal only without what no input reaches.
            ("ask -1/8 x 1\ntell 0\nask -1/2 x 1\nask -3/4 x 1\ntell 7\ntell 8\nask -1/4 x 1\ntell 9\ntell 7",
             "ask -1/8 x 1\ntell 0\ntell 7"),
            # Nodes with equal results whose texts differ stay; so does a whole tree that is asked.
            ("ask -1/2 x 1\ntell 0\nask -3/4 x 1\ntell 1 x 1\nask -7/8 x 1\ntell 1 x 1\ntell 2",
             "ask -1/2 x 1\ntell 0\nask -3/4 x 1\ntell 1 x 1\nask -7/8 x 1\ntell 1 x 1\ntell 2"),
            ("ask -1/2 x 1\nask -1/4 x 1\ntell 0\ntell 1\nask -3/4 x 1\ntell 0\ntell 1",
             "ask -1/2 x 1\nask -1/4 x 1\ntell 0\ntell 1\nask -3/4 x 1\ntell 0\ntell 1"),
        ]:
            self.check_lines(UNIT, "tree t\n" + nodes, "tree t\n" + expected)
        # A thin leaf is reached, too.
        self.check_lines(UNIT, "tree t\nask 0 x 1\ntell 5\ntell 1", "tree t\nask 0 x 1\ntell 5\ntell 1")
        same = "tree t\nask -1/2 u 1\nask -1/2 x 1\ntell 0\ntell 1\nask -1/2 x 1\ntell 0\ntell 1"
        self.check_lines("yesno u\n" + UNIT, same, "tree t\nask -1/2 x 1\ntell 0\ntell 1")

    def test_the_answers_are_those_of_the_whole_model(self):
        lines = "clip a 1/4 3/4 0 x 1\ntree t\nask -1 a 1\nask -1/4 a 1\ntell 0\ntell 1\ntell 2\nsum f 0 a 1 t 1"
        self.check_lines(X, lines, lines.replace("ask -1 a 1\n", "").replace("tell 2\n", ""))

    def test_trees_of_classes(self):
        for nodes, expected in [
            ("ask -1/2 x 1\nclass a\nask -1/4 x 1\nclass a\nclass b", "ask -1/2 x 1\nclass a\nclass b"),
            ("ask -1/2 x 1\nask -1/4 x 1\nclass a\nclass a\nclass b", "ask -1/2 x 1\nclass a\nclass b"),
            ("ask -1/2 x 1\nclass a\nclass a", "class a"),
            # A class would be gone; it stays as a whole.
            ("ask -1/2 x 1\nclass a\nask -1/4 x 1\nclass c\nclass b", None),
            ("ask -2 x 1\nask -1/2 x 1\nask -1/4 x 1\nclass a\nclass a\nclass b\nclass c", None),
            # The order would be another one.
            ("ask 1 x 1\nask -1/2 x 1\nclass b\nclass a\nask -1/2 x 1\nclass a\nclass b", None),
            ("ask 1 x 1\nask -1/2 x 1\nclass a\nclass b\nask -1/2 x 1\nclass a\nclass b", "ask -1/2 x 1\nclass a\nclass b"),
        ]:
            self.check_lines(UNIT, "tree t\n" + nodes, "tree t\n" + (nodes if expected is None else expected))

    def test_highest(self):
        for planes, expected in [
            ("0 x 1 , -1 , 1/2", "0 x 1 , 1/2"), ("-1 , 0 x 1 , 1 x -1 , 0", "0 x 1 , 1 x -1"), ("0 x 1 , 1/2 , 0 x 1", "0 x 1 , 1/2"),
            ("0 x 1 , 1 x -1 , 1/2", "0 x 1 , 1 x -1"), ("0 x 1 , 1 x -1 , 3/4", "0 x 1 , 1 x -1 , 3/4"),
            # The first plane is the best one at 0 alone.
            ("0 , 0 x 1 , 0 x 2 , -1/2 x 2", "0 x 2"),
        ]:
            made = f"sum h {expected}" if "," not in expected else f"highest h {expected}"
            self.check_lines(UNIT, "highest h " + planes, made)
        self.check_lines(SQUARE, "highest h 0 y 2 , 0 x 1 y 1 , 0 x 2 , -1", "highest h 0 y 2 , 0 x 2")
        # At 0 the first one is the best one, and the second one elsewhere.
        self.check_lines(UNIT, "tree t\nask 0 x 1\ntell 1\ntell 0\nhighest h 0 t 1 , 1/2 , -1 x 1 t 1",
                         "tree t\nask 0 x 1\ntell 1\ntell 0\nhighest h 0 t 1 , 1/2")

    def test_rules(self):
        for rows, expected in [
            ("if a -1/2 x 1\nif b -2 x 1\nif b -1/4 x 1\nelse a", "if a -1/2 x 1\nif b -1/4 x 1\nelse a"),
            # It holds only where an earlier rule gives the result.
            ("if a -1/2 x 1\nif b -1/4 x 1\nif a -3/4 x 1\nelse c", "if a -1/2 x 1\nif b -1/4 x 1\nelse c"),
            ("if a -1/2 x 1 , 1/4 x -1\nif a -1/2 x 1\nelse b", "if a -1/2 x 1\nelse b"),
            ("if a -1 x 1\nelse a", "else a"), ("else a", "else a"),
            # A class would be gone, and another order.
            ("if a -1 x 1\nelse b", None), ("if b -1 x 1\nif a -1/2 x 1\nelse b", None), ("if a 1\nif b -1/2 x 1\nelse a", None),
            ("if a 1\nif b -1/2 x 1\nelse c", None),
        ]:
            self.check_lines(UNIT, "rules r\n" + rows, "rules r\n" + (rows if expected is None else expected))

    def test_other_verdicts_stay(self):
        for line in ("sign s no yes -5 x 1", "choose s no 0 , yes -5 x 1 , may -6 x 1", "near s 1 x 1\nrow no 0\nrow yes 9\nrow no 20",
                     "near s 2 x 1/2\nrow no 0\nrow no 9"):
            self.check_lines(UNIT, line, line)
            self.check_lines(UNIT, line + "\nsum f 0 x 1", "sum f 0 x 1")
        lines = "sign a no yes -1/2 x 1\nsign b no yes -1/4 x 1\nvotes v yes no : a b a\ngate g v yes a no b"
        self.check_lines(UNIT, lines, lines)
        self.check_lines(UNIT, lines + "\nvotes w yes no : v", lines.rsplit("\n", 1)[0] + "\nvotes w yes no : v")

    def test_names_that_no_later_line_uses(self):
        chain = "sum a 1 x 1\nhinge b -3/2 a 1\nsum c 0 b 1\nsum f 0 x 1"
        self.check_lines(UNIT, chain, "sum f 0 x 1")
        self.check_lines(UNIT, chain + " b 1", "sum a 1 x 1\nhinge b -3/2 a 1\nsum f 0 x 1 b 1")
        # A line is used only by what goes away: the tree, and the settled hinge.
        self.check_lines(UNIT, "sum a 0 x 1\ntree t\nask -2 a 1\ntell 3\ntell 0 a 5\nhinge h -5 a 1\nsum f 0 x 1 t 1 h 1",
                         "sum t 3\nsum h 0\nsum f 0 x 1 t 1 h 1")
        for verdict in ("near n 1 x 1 a 1\nrow no 0 0", "rules n\nif no 0 a 1\nelse no", "choose n no 0 a 1 , yes 0"):
            self.check_lines(UNIT, "sum a 0 x 1\n" + verdict, "sum a 0 x 1\n" + verdict)
        # The last line stays, whatever it is, and classes and features with the name of a line are no uses.
        self.check_lines(UNIT, "sum a 0 x 1\nsign b a x 0 x 1", "sign b a x 0 x 1")
        self.check_lines(UNIT, "sum a 0 x 1\nsign b a no 0 x 1\ngate g b a b no b", "sign b a no 0 x 1\ngate g b a b no b")

    def test_many_at_once(self):
        lines = ("hinge a 1 x 1\nhinge b -2 x 1\nhinge c -1/2 x 1\nhinge d 1 x -2\nclip h 0 1 0 x 1\nleaky g 2 -5 x 1\n"
                 "highest i 0 x 1 , -9 , 1 x -1\nrules r\nif no -4 x 1\nif no -1/2 x 1\nelse yes\nsum z 0 i 1\n"
                 "gate w r no d yes h\nsum f 0 b 1 g 1 i 1 w 1")
        self.check_lines("yesno u by 3\n" + UNIT, lines,
                         "sum b 0\nhinge c -1/2 x 1\nsum d 1 x -2 c 2\nsum h 0 x 1\nsum g -10 x 2\nhighest i 0 x 1 , 1 x -1\n"
                         "rules r\nif no -1/2 x 1\nelse yes\ngate w r no d yes h\nsum f 0 b 1 g 1 i 1 w 1")

    def test_the_lines_of_the_features_stay_as_they_are(self):
        features = "fraction x from -1/3 to 4 by 1/7\nyesno sum by 2\nfraction y\nfraction z to -5\nyesno from\n"
        self.check_lines(features, "hinge a 1 sum 2\nsum f 0 from 1 a 1", "sum a 1 sum 2\nsum f 0 from 1 a 1")

    def test_many_models(self):
        rng = random.Random(511)
        shorter = 0
        for text in some_texts(rng, 110, 6):
            if Model(text).switches <= 20:
                self.check_one_of_many(rng, text)
                shorter += slimmed(Model(text)).text != text
        for _ in range(30):
            self.check_one_of_many(rng, hinge_text(rng))
        self.assertGreater(shorter, 50)

    def check_one_of_many(self, rng, text):
        model = Model(text)
        found = slimmed(model)
        self.check(text, slimmed_text(text))
        for _ in range(5):
            given = random_input(rng, Text(text))
            letters = dict(zip(Text(text).names, given))
            before, after = Text(text).work(letters)[2], Text(found.text).work(letters)[2]
            self.assertEqual({name: before[name] for name in after}, after)

    def test_numbers_that_are_too_long(self):
        for power, top in [(1999, None), (2000, 4001), (2100, 4101)]:
            for number, multiple in [(10 ** 2000, 1), (1, 10 ** 2000), (Fraction(1, 10 ** 2000), 1), (1, Fraction(1, 10 ** 2000))]:
                factor = 10 ** power if number >= 1 and multiple >= 1 else Fraction(1, 10 ** power)
                text = f"fraction x from 0 to 1\nleaky f {ratio(factor).written()} -{ratio(number).written()} x -{ratio(multiple).written()}"
                if top is None:
                    self.assertEqual(slimmed(Model(text)).kind_of("f"), "sum")
                else:
                    check_raised(self, TooLong, {"digits": top}, slimmed, Model(text))
        # The first one of the text counts; what is removed does not.
        lines = ["leaky a 1" + "0" * 2500 + " -1" + "0" * 1600 + " x -1", "leaky b 1" + "0" * 2500 + " -1 x -1" + "0" * 1800]
        check_raised(self, TooLong, {"digits": 4101}, slimmed, Model(UNIT + "\n".join([*lines, "sum f 0 a 1 b 1"])))
        check_raised(self, TooLong, {"digits": 4301}, slimmed, Model(UNIT + "\n".join([*lines, "sum f 0 b 1"])))
        self.assertEqual(slimmed(Model(UNIT + "\n".join([*lines, "sum f 0"]))).text, UNIT + "sum f 0")
        twins = "fraction x from -1 to 1\nhinge u 0 x {}\nhinge v 0 x {}\nsum f 0 u 1 v 1"
        for one, other, digits in [("1", "1" + "0" * 3999, None), ("1/1" + "0" * 2000, "1" + "0" * 1999, None),
                                   ("1/1" + "0" * 2000, "1" + "0" * 2000, 4001), ("1" + "0" * 2000, "-1/1" + "0" * 2001, 4002)]:
            if digits is None:
                self.assertEqual(slimmed(Model(twins.format(one, other))).kind_of("v"), "sum")
            else:
                check_raised(self, TooLong, {"digits": digits}, slimmed, Model(twins.format(one, other)))

    def test_asked_again(self):
        model = Model(UNIT + "hinge a 1 x 1\nsum f 0 a 1")
        self.assertEqual(slimmed(model).text, slimmed(model).text)
        self.assertEqual(model.text, UNIT + "hinge a 1 x 1\nsum f 0 a 1")


class ThinnedTest(unittest.TestCase):
    def thinned(self, text, most):
        """The names that are cut, checked hinge by hinge."""
        model = Model(text)
        found = thinned(model, ratio(most))
        self.assertIs(type(found), Thinned)
        self.assertEqual([type(item) for item in (found.model, found.cut, found.kept)], [Model, tuple, tuple])
        hinges = [name for name in model.names if model.kind_of(name) == "hinge"]
        kept = [name for name, _ in found.kept]
        self.assertEqual(sorted([*found.cut, *kept]), sorted(hinges))
        self.assertEqual([list(found.cut), kept], [[name for name in hinges if name in part] for part in (found.cut, kept)])
        gone = []
        for name in hinges:
            cut = Model(self.without(text, [*gone, name]))
            if name in found.cut:
                gone.append(name)
                self.assertIsNone(above(model, cut, ratio(most)))
                self.assertIsNone(above(cut, model, ratio(most)))
            else:
                given = check_given(self, text, dict(found.kept)[name])
                self.assertGreater(abs(told_at(text, given) - told_at(cut.text, given)), most)
        self.assertEqual(found.model.text, self.without(text, gone))
        return found.cut

    def without(self, text, names):
        rows = [row.split(" ") for row in text.split("\n")]
        return "\n".join(" ".join(["sum", row[1], "0"] if row[0] == "hinge" and row[1] in names else row) for row in rows)

    def test_bounds(self):
        text = UNIT + "hinge a -1/2 x 1\nsum f 0 x 1 a 2"
        for most, cut in [(1, ("a",)), (1 - Fraction(1, 10 ** 30), ()), (0, ()), (2, ("a",)), (Fraction(3, 2), ("a",)), (HALF, ())]:
            self.assertEqual(self.thinned(text, most), cut)
        for most in (1, Ratio(1), 5, Ratio(7, 2)):
            self.assertEqual(thinned(Model(text), most).cut, ("a",))
        for most in (0, Ratio(0), Ratio(1, 2)):
            self.assertEqual(thinned(Model(text), most).cut, ())
        # A difference that is near 1 only, and one below 0.
        self.assertEqual(self.thinned(UNIT + "tree t\nask -1 x 1\ntell 0 x 1\ntell 0\nhinge a 0 t 1\nsum f 0 a -1", 1), ("a",))
        near = UNIT + "tree t\nask 1 x -1\ntell 0\ntell 0 x 1\nhinge a 0 t 1\nsum f 0 a -1"
        self.assertEqual((self.thinned(near, 1), self.thinned(near, Fraction(99, 100))), (("a",), ()))

    def test_hinges_that_the_result_does_not_need(self):
        text = UNIT + "hinge a -2 x 1\nhinge b 0 x 1\nhinge c -1/2 x 1\nsum f 0 a 5 b 1"
        self.assertEqual(self.thinned(text, 0), ("a", "c"))
        self.assertEqual(self.thinned(UNIT + "hinge a 0 x 1\nhinge f 0 a 1", 0), ())
        self.assertEqual(self.thinned(UNIT + "hinge a 0 x 1\nhinge f 0 a 1", 1), ("a", "f"))

    def test_cuts_are_compared_with_the_given_model(self):
        # Each is off by 1 alone, and both together by 2.
        text = UNIT + "hinge a 0 x 1\nhinge b 0 x 1\nhinge c 0 x -1\nsum f 0 a 1 b 1 c 1"
        self.assertEqual(self.thinned(text, 1), ("a", "c"))
        self.assertEqual(self.thinned(text, 2), ("a", "b", "c"))
        self.assertEqual(self.thinned(text, Fraction(3, 2)), ("a", "c"))
        # The second one would be off by 2 alone, and takes back what the first one does.
        text = UNIT + "hinge a 0 x 1\nhinge b 0 x 2\nhinge c 0 x 1\nsum f 0 a 1 b -1 c 1"
        self.assertEqual(self.thinned(text, 1), ("a", "b", "c"))
        self.assertEqual(self.thinned(text, HALF), ())

    def test_only_hinges_are_cut(self):
        text = UNIT + "leaky a 0 -1 x 1\nclip b 0 1 0 x 1\nhighest c 0 , 0 x 1\nsum f 0 a 1 b 1 c 1"
        self.assertEqual(self.thinned(text, 100), ())
        self.assertEqual(thinned(Model(text), 100).model.text, text)
        text = "fraction x from 0 to 1 by 7\nyesno u\nhinge h 0 x 1 u 1\nsign s no yes 0 h 1\nhinge g 0 x 1\nsum k 1\ngate f s no g yes k"
        self.assertEqual(self.thinned(text, 0), ("g",))
        self.assertEqual(self.thinned(text, 1), ("h", "g"))

    def test_endless_differences(self):
        self.assertEqual(self.thinned(X + "hinge a 0 x 1\nhinge b 0 x -1\nsum f 0 a 1 b -1", 1000), ())

    def test_many_models(self):
        rng = random.Random(512)
        cut, kept = 0, 0
        for turn in range(40):
            text = hinge_text(rng)
            if turn % 2:
                text = text.replace("sum out 0", "leaky out 1/2 -1")
            if " from 0 to 1" in text:
                found = self.thinned(text, rng.choice([0, HALF, 1, 2, 3]))
                cut += len(found)
                kept += text.count("hinge") - len(found)
        for text in some_texts(rng, 60, 4):
            if Model(text).tells == "number" and Model(text).switches <= 14 and "hinge" in text:
                self.thinned(text, rng.choice([0, HALF, 2]))
        self.assertGreater(min(cut, kept), 20)

    def test_the_order_of_errors(self):
        def with_switches(many, last=""):
            return Model(X + "highest h " + " , ".join(["0"] * (many + 1)) + last)

        told = with_switches(20, "\nsign s no yes 0")
        for most in (0, -1, None, True):
            check_raised(self, Unlike, {"what": "kind"}, thinned, told, most)
        for most in (*NO_NUMBERS, -1, Ratio(-1, 10 ** 50)):
            check_raised(self, BadNumber, {"what": "most", "number": most}, thinned, with_switches(21), most)
        for most in (0, Ratio(1, 2)):
            check_raised(self, TooLarge, {"what": "switches", "many": 42, "limit": 40}, thinned, with_switches(21), most)
            self.assertEqual(thinned(with_switches(20), most).cut, ())
            self.assertEqual(thinned(with_switches(19, "\nhinge f -1"), most).cut, ("f",))
            check_raised(self, TooLarge, {"what": "switches", "many": 80, "limit": 40}, thinned, with_switches(40), most)

    def test_asked_again(self):
        model = Model(UNIT + "hinge a -1/2 x 1\nhinge b 0 x 1\nsum f 0 a 1 b 1")
        one, other = thinned(model, HALF_RATIO), thinned(model, HALF_RATIO)
        self.assertEqual((one.model, one.cut, one.kept), (other.model, other.cut, other.kept))
        self.assertEqual([fractions(given) for _, given in one.kept], [fractions(given) for _, given in other.kept])


HALF_RATIO = Ratio(1, 2)

if __name__ == "__main__":
    unittest.main()
