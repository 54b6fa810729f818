import random
import unittest
from fractions import Fraction

from checking import check_ratio, fraction
from hingeworks.models import Model
from hingeworks.settling import settled, twins
from modeltexts import random_text, some_texts
from slimmer import plane_text, settled_choices, twin_triples

UNIT = "fraction x from 0 to 1\n"
X = "fraction x\n"
SQUARE = "fraction x from 0 to 1\nfraction y from 0 to 1\n"
HALF = Fraction(1, 2)


def hinge_text(rng):
    """A text with hinges whose planes are often multiples of each other, on fractions of several ranges."""
    rows = [f"fraction {name}" + rng.choice(["", " from 0 to 1", " from -1 to 1", " from 0"])
            for name in "xy"[:rng.randint(1, 2)]]
    letters = [row.split(" ")[1] for row in rows]
    planes = [(rng.randint(-2, 2), [(name, rng.choice([-2, -1, 1, 2])) for name in letters if rng.random() < 0.8])
              for _ in range(2)]
    names = []
    for name in "abcde"[:rng.randint(3, 5)]:
        fixed, pairs = rng.choice(planes)
        if names and rng.random() < 0.4:
            other = rng.choice(names)
            plane = rng.choice([plane_text(0, [(other, rng.choice([-1, 2, HALF]))]), plane_text(fixed, [*pairs, (other, -1)]),
                                plane_text(-fixed, [*[(letter, -item) for letter, item in pairs], (other, 1)])])
        else:
            ratio = rng.choice([-1, 1, 2, -2, Fraction(1, 3)])
            plane = plane_text(fixed * ratio, [(letter, item * ratio) for letter, item in pairs])
        rows.append(f"hinge {name} {plane}")
        names.append(name)
    rows.append("sum out 0 " + " ".join(f"{name} 1" for name in names))
    return "\n".join(rows)


class SettlingTest(unittest.TestCase):
    def settled(self, text):
        found = settled(Model(text))
        self.assertIs(type(found), tuple)
        for pair in found:
            self.assertEqual([type(item) for item in pair], [str, int])
            self.assertIs(type(pair), tuple)
        return found

    def check_one(self, features, line, choice):
        """The value of the line, called f, is settled by this choice, or by none."""
        expected = () if choice is None else (("f", choice),)
        self.assertEqual(self.settled(features + line), expected, line)

    def test_hinges(self):
        for line, choice in [("-1 x 1", 0), ("-2 x 1", 0), ("0 x -3", 0), ("0 x 1", 1), ("1/2 x 2", 1), ("1 x -1", 1), ("0", 0),
                             ("3", 1), ("-3", 0), ("-1/2 x 1", None), ("-999/1000 x 1", None), ("1/1000 x -1", None)]:
            self.check_one(UNIT, "hinge f " + line, choice)
        for line, choice in [("0 x 1", None), ("-1000000 x 1", None), ("0", 0), ("1/9", 1)]:
            self.check_one(X, "hinge f " + line, choice)

    def test_a_plane_that_is_0_for_every_input(self):
        self.check_one(X, "sum a 2 x 3\nsum b 4 x 6\nhinge f 0 a 2 b -1", 0)
        self.check_one(X, "leaky f 1/3 0", 0)
        # 0 * x * u, of which one factor is 0.
        self.check_one("fraction x\nyesno u\n", "tree t\nask -1/2 u 1\ntell 0 x 1\ntell 0\nhinge f 0 t 1", None)
        self.assertEqual(self.settled(UNIT + "sum f 0"), ())

    def test_leaky_lines(self):
        for line, choice in [("2 -1 x 1", 0), ("2 0 x 1", 1), ("1 0 x 1", 0), ("1 -1/2 x 1", 0), ("0 -1 x 1", 0),
                             ("0 -1/2 x 1", None), ("-1 -1/2 x 1", None), ("-1 0 x -1", 0), ("7 0", 0), ("7 1", 1)]:
            self.check_one(UNIT, "leaky f " + line, choice)

    def test_clips(self):
        for line, choice in [("0 1 0 x 1", 1), ("-1 2 0 x 1", 1), ("1 2 0 x 1", 0), ("-1 0 0 x 1", 2), ("0 1/2 0 x 1", None),
                             ("1/2 2 0 x 1", None), ("0 1 5", 2), ("0 1 -5", 0), ("0 1 1/2", 1), ("0 1 0", 0), ("0 1 1", 1)]:
            self.check_one(UNIT, "clip f " + line, choice)

    def test_highest(self):
        for line, choice in [("0 , 0 x 1 , -1 x 1", 1), ("0 , 0 x -1 , -1", 0), ("-1 , 0 x 1 , 1", 2), ("0 , 0 , 0", 0),
                             ("0 x 1 , 1 x -1", None), ("0 , -1/2 x 1", None), ("-5 , 0 x 1 , 0 x 1", 1),
                             ("0 , 1 x -1 , -1 , 1 x -1", 1), ("-1 , 1/2 , 0 x 1", None)]:
            self.check_one(UNIT, "highest f " + line, choice)

    def test_trees_of_numbers(self):
        for nodes, choice in [
            ("tell 0 x 1", 0), ("ask 1 x 1\ntell 5\ntell 0 x 1", 1), ("ask -1 x 1\ntell 5\ntell 0 x 1", 0),
            ("ask -1/2 x 1\ntell 5\ntell 0 x 1", None), ("ask -1/2 x 1\ntell 5\ntell 5", 0),
            ("ask -1/2 x 1\nask 3\ntell 0\ntell 0 x 2\ntell 0 x 2", 1), ("ask -2 x 1\nask 1\ntell 7\ntell 8\ntell 9", 1),
            # 1 is told at 1 alone, where x is 1, too.
            ("ask 1 x -1\ntell 1\ntell 0 x 1", 1), ("ask 0 x 1\ntell 0 x 5\ntell 0 x 2", 1), ("ask 0 x 1\ntell 1/9\ntell 0", None),
        ]:
            self.check_one(UNIT, "tree f\n" + nodes, choice)

    def test_gates_of_values(self):
        lines = "sum a 0 x 1\nsum b 0 x 2\nsum c 0 x 1\nsign s no yes {}\ngate f s {}"
        for plane, items, choice in [
            ("-1 x 1", "no a yes b", 0), ("1", "no a yes b", 1), ("-1/2 x 1", "no a yes b", None), ("-1/2 x 1", "no a yes c", 0),
            ("-1/2 x 1", "no b yes b", 0), ("0 x 1", "no b yes a", 1), ("1 x -1", "no b yes a", None),
        ]:
            self.check_one(UNIT, lines.format(plane, items), choice)
        rules = "sum a 0 x 1\nsum b 1\nrules r\nif p -1 x 1\nif q -2\nelse r\ngate f r p b q b r a"
        self.check_one(UNIT, rules, 2)

    def test_within_the_ranges_alone(self):
        for features, choice in [("fraction x to 1", 0), ("fraction x from 1", 1), ("fraction x from 0 to 2", None)]:
            self.check_one(features + "\n", "hinge f -1 x 1", choice)
        self.check_one("yesno u\n", "hinge f -1 u 1", 0)
        self.check_one("yesno u\n", "hinge f -1/2 u 1", None)
        self.check_one("yesno u\nfraction x from 0 to 1\n", "hinge f -2 u 1 x 1", 0)
        self.check_one("yesno u\nfraction x from 0 to 1\n", "hinge f -3/2 u 1 x 1", None)

    def test_thin_leaves_count(self):
        # The tree tells the first number at 0 alone.
        for first, second, choice in [(1, -1, None), (-1, 1, None), (0, -1, 0), (0, 1, 1), (0, 0, 0), (-1, -1, 0)]:
            found = self.settled(UNIT + f"tree a\nask 0 x 1\ntell {first}\ntell {second}\nhinge f 0 a 1")
            self.assertEqual([number for name, number in found if name == "f"], [] if choice is None else [choice])
        self.check_one(SQUARE, "tree a\nask 0 x 1 y -1\nask 0 x -1 y 1\ntell 5\ntell -1\ntell -1\nhinge f 0 a 1", None)
        self.check_one(SQUARE, "tree f\nask 0 x 1 y -1\nask 0 x -1 y 1\ntell 0 x 1\ntell 0 y 1\ntell 0 y 1", 1)
        self.check_one(SQUARE, "tree f\nask 0 x 1 y -1\nask 0 x -1 y 1\ntell 1 x 1\ntell 0 y 1\ntell 0 y 1", None)

    def test_sums_and_verdicts_have_no_choices(self):
        text = UNIT + ("sum a 0\nsign b no yes 1\nchoose c no 0 , yes 1\nrules d\nelse no\nnear e 1 x 1\nrow no 0\n"
                       "votes g no yes : b\ngate h b no d yes d\ntree i\nclass no")
        self.assertEqual(self.settled(text), ())

    def test_all_of_a_text_in_its_order(self):
        text = UNIT + ("hinge c -1/2 x 1\nhinge a 1 x 1\nsign s no yes -3 a 1\nclip b 0 1 5\nleaky d 3 -1 c 1\n"
                       "sum e 0\nhinge f 0 c -2 d 1\ngate g s no b yes a")
        self.assertEqual(self.settled(text), (("a", 1), ("b", 2), ("d", 0), ("f", 0), ("g", 0)))

    def test_many_models(self):
        rng = random.Random(501)
        counts = {}
        for text in some_texts(rng, 120, 5):
            found = self.settled(text)
            self.assertEqual(list(found), settled_choices(text), text)
            for _, choice in found:
                counts[choice] = counts.get(choice, 0) + 1
        self.assertGreater(min(counts[0], counts[1]), 15)
        self.assertGreater(sum(counts.values()), counts[0] + counts[1])

    def test_forty_switches(self):
        lines = [f"hinge {one}{other} -{2 + number} x 1" for number, (one, other) in
                 enumerate((one, other) for one in "abcde" for other in "abcdefgh")]
        self.assertEqual(len(self.settled(UNIT + "\n".join(lines))), 40)
        highest = "highest h " + " , ".join(["0"] + [f"{-number} x {number}" for number in range(1, 41)])
        self.assertEqual(self.settled(X + highest), ())
        self.assertEqual(self.settled(UNIT + highest), (("h", 0),))


class TwinsTest(unittest.TestCase):
    def twins(self, text):
        found = twins(Model(text))
        self.assertIs(type(found), tuple)
        for triple in found:
            self.assertIs(type(triple), tuple)
            check_ratio(self, triple[2])
        return [(name, other, fraction(ratio)) for name, other, ratio in found]

    def test_ratios_above_and_below_0(self):
        for plane, ratio in [("-1/2 x 1", 1), ("-1 x 2", 2), ("-1/6 x 1/3", Fraction(1, 3)), ("1/2 x -1", -1), ("1 x -2", -2),
                             ("1/4 x -1/2", -HALF), ("-1/3 x 1", None), ("-1/2 x 2", None), ("1/3 x -1", None)]:
            expected = [] if ratio is None else [("v", "u", ratio)]
            self.assertEqual(self.twins(UNIT + f"hinge u -1/2 x 1\nhinge v {plane}\nsum f 0"), expected, plane)

    def test_only_the_results_count(self):
        # The plane of v is another one where both are off.
        self.assertEqual(self.twins(UNIT + "leaky a 5 -1/2 x 1\nhinge u -1/2 x 1\nhinge v 0 a 3\nsum f 0"), [("v", "u", 3)])
        planes = "clip c -1/4 1 -1/2 x 1\nhinge u -1/2 x 1\nhinge v 0 c 2"
        self.assertEqual(self.twins(UNIT + planes), [("v", "u", 2)])
        # r * (P - u) is r * P where u is off, and 0 elsewhere.
        self.assertEqual(self.twins(UNIT + "hinge u -1/2 x 1\nhinge v 1 x -2 u 1"), [("v", "u", -2)])
        self.assertEqual(self.twins(UNIT + "hinge u -1/2 x 1\nhinge v 1 x -2 u 3"), [])

    def test_a_twin_of_a_twin_names_the_first(self):
        text = UNIT + "hinge a -1/2 x 1\nhinge b -1/3 x 1\nhinge c -1 x 2\nhinge d -2/3 x 2\nhinge e -1/4 x 1/2 c -1\nhinge g 1 x -2"
        self.assertEqual(self.twins(text), [("c", "a", 2), ("d", "b", 2), ("g", "a", -2)])
        # Each is a twin of all ahead of it.
        text = UNIT + "hinge a -1/2 x 1\nhinge b 1/2 x -1\nhinge c 1 x -2\nhinge d -2 x 4"
        self.assertEqual(self.twins(text), [("b", "a", -1), ("c", "a", -2), ("d", "a", 4)])
        # A hinge of a hinge is settled.
        self.assertEqual(self.twins(UNIT + "hinge a -1/2 x 1\nhinge b 0 a 2"), [])

    def test_settled_hinges_are_no_twins(self):
        for lines in ("hinge u 0 x 1\nhinge v 0 x 2", "hinge u -1 x 1\nhinge v -2 x 2", "hinge u -1/2 x 1\nhinge v -1 x 1",
                      "hinge u 1\nhinge v 1", "hinge u -1 x 1\nhinge v -1/2 x 1"):
            self.assertEqual(self.twins(UNIT + lines), [], lines)
        self.assertEqual(self.twins(X + "hinge u 0 x 1\nhinge v 0 x 2"), [("v", "u", 2)])

    def test_the_ranges_and_the_settings(self):
        lines = "hinge u -1/2 x 1 y 1\nhinge v -1/2 x 2 y 2"
        self.assertEqual(self.twins("fraction x from 0 to 1\nfraction y from 0 to 1\n" + lines), [])
        both = "yesno w\nfraction x\nhinge u 0 w 1 x 1\nhinge v 0 w 2 x {}"
        self.assertEqual(self.twins(both.format(2)), [("v", "u", 2)])
        self.assertEqual(self.twins(both.format(3)), [])
        # They differ beyond the range alone.
        bent = "hinge a -1 x 1\nhinge u -1/2 x 1\nhinge v -1/2 x 1 a 1"
        self.assertEqual(self.twins(UNIT + bent), [("v", "u", 1)])
        self.assertEqual(self.twins(X + bent), [])

    def test_hinges_that_differ_in_one_thin_leaf_alone(self):
        dot = "tree t\nask 0 x 1 y -1\nask 0 x -1 y 1\ntell {}\ntell 0\ntell 0\nhinge u -1/2 x 1\nhinge v -1/2 x 1 t 1"
        self.assertEqual(self.twins(SQUARE + dot.format(0)), [("v", "u", 1)])
        self.assertEqual(self.twins(SQUARE + dot.format(1)), [])
        self.assertEqual(self.twins(SQUARE + dot.format("0 x 1 y -1")), [("v", "u", 1)])

    def test_other_lines_are_no_twins(self):
        for word in ("leaky b 0", "leaky b 1/2", "clip b 0 2", "sum b", "highest b 0 ,"):
            self.assertEqual(self.twins(UNIT + f"hinge a -1/2 x 1\n{word} -1/2 x 1"), [])

    def test_many_models(self):
        rng = random.Random(502)
        above, below = 0, 0
        for _ in range(60):
            text = hinge_text(rng)
            found = self.twins(text)
            self.assertEqual(found, twin_triples(text), text)
            self.assertEqual(list(settled(Model(text))), settled_choices(text), text)
            above += sum(ratio > 0 for _, _, ratio in found)
            below += sum(ratio < 0 for _, _, ratio in found)
        self.assertGreater(min(above, below), 15)

    def test_asked_again(self):
        rng = random.Random(503)
        text = random_text(rng, 2, 1, ["hinge", "clip", "hinge", "tree", "highest"])
        model = Model(text)
        self.assertEqual((settled(model), twins(model)), (settled(model), twins(Model(text))))
        self.assertEqual(model.text, text)


if __name__ == "__main__":
    unittest.main()
