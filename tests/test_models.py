import random
import unittest
from fractions import Fraction

from checking import NO_NUMBERS, check_raised, fraction, numbers, plane, ratio, worth
from hingeworks.errors import NoLine, TooLarge
from hingeworks.features import Features
from hingeworks.models import Model
from hingeworks.planes import Plane, letter_plane, number_plane
from modeltexts import some_texts
from reference import Text

HEAD = "fraction x\nyesno u\n"
MANY = (HEAD + "sum a 1 x 2\nhinge b 0 a 1\nleaky c 1/2 0 b 1\nclip d 0 1 0 c 1\nhighest e 0 d 1 , 1 , 0 u 1\n"
        "tree f\nask 0 x 1\ntell 0\ntell 1\nsign g no yes 0 x 1\nchoose h no 0 , low 0 x 1 , yes 0 u 1\n"
        "rules i\nif yes 0 x 1 , 0 u 1\nif no 1 x 1\nelse yes\nnear j 2 x 1\nrow yes 0\nrow no 1\nrow yes 2\n"
        "tree k\nask 0 x 1\nask 0 u 1\nclass up\nclass down\nclass up\nvotes l low yes no : g h g\n"
        "gate m g no a yes b\ngate n i yes k no h")


class ModelsTest(unittest.TestCase):
    def test_attributes(self):
        model = Model(MANY)
        self.assertEqual(model.text, MANY)
        self.assertIs(type(model.features), Features)
        self.assertEqual(model.features, Features("fraction x\nyesno u"))
        self.assertEqual(model.names, tuple("abcdefghijklmn"))
        self.assertEqual(model.tells, "class")
        self.assertEqual(model.classes, ("up", "down", "no", "low", "yes"))
        self.assertEqual(model.switches, 0 + 1 + 1 + 2 + 2 + 1 + 1 + 2 + 3 + 3 + 2 + 0 + 0 + 0)
        self.assertIs(type(model.switches), int)
        self.assertIs(type(model.names), tuple)
        self.assertIs(type(model.classes), tuple)

    def test_number_models(self):
        for lines in ("sum f 0", "sign s no yes 0\nsum f 0", "tree t\ntell 1",
                      "sum f 0\nsign s no yes 0\ngate g s no f yes f"):
            model = Model(HEAD + lines)
            self.assertEqual((model.tells, model.classes), ("number", ()))
        for lines in ("sum f 0\nsign s no yes 0", "tree t\nclass no", "sign s no yes 0\ngate g s no s yes s"):
            self.assertEqual(Model(HEAD + lines).tells, "class")

    def test_models_are_equal_if_their_texts_are(self):
        self.assertEqual(Model(MANY), Model(MANY))
        one = Model("fraction x\nsum f 0")
        self.assertIs(one == Model("fraction x\nsum f 0"), True)
        self.assertIs(one != Model("fraction x\nsum f 0"), False)
        for other in (Model("fraction x\nsum g 0"), Model("fraction x\nsum f 1"), "fraction x\nsum f 0", None, 0,
                      one.features):
            self.assertIs(one == other, False)
            self.assertIs(other == one, False)

    def test_kinds(self):
        model = Model(MANY)
        kinds = ["sum", "hinge", "leaky", "clip", "highest", "tree", "sign", "choose", "rules", "near", "tree", "votes",
                 "gate", "gate"]
        self.assertEqual([model.kind_of(name) for name in model.names], kinds)

    def test_classes(self):
        model = Model(MANY)
        told = {"g": ("no", "yes"), "h": ("no", "low", "yes"), "i": ("yes", "no"), "j": ("yes", "no"),
                "k": ("up", "down"),
                "l": ("low", "yes", "no"), "n": ("up", "down", "no", "low", "yes")}
        for name in model.names:
            found = model.classes_of(name)
            self.assertIs(type(found), tuple)
            self.assertEqual(found, told.get(name, ()))

    def test_classes_that_no_input_leads_to_count(self):
        self.assertEqual(Model("fraction x\nrules r\nif never -1\nelse always").classes, ("never", "always"))
        self.assertEqual(Model("fraction x\ntree t\nask -1\nclass a\nask 0\nclass b\nclass a").classes, ("a", "b"))
        self.assertEqual(Model("fraction x\nnear n 1 x 1\nrow b 0\nrow a 0\nrow b 0\nrow c 0").classes, ("b", "a", "c"))
        self.assertEqual(Model("fraction x\nsign s b a -1\nvotes v q b a : s").classes, ("q", "b", "a"))
        gate = "fraction x\nsign s b a -1\nsign t c b 0\nrules r\nelse a\ngate g s b t a r"
        self.assertEqual(Model(gate).classes, ("c", "b", "a"))
        self.assertEqual(Model(gate.replace("b t a r", "b r a t")).classes, ("a", "c", "b"))
        self.assertEqual(Model("fraction x\nrules r\nif b 0\nif a 0\nif b 1\nelse c").classes, ("b", "a", "c"))
        self.assertEqual(Model("fraction x\nchoose c b 0 , a 0 , d 1").classes, ("b", "a", "d"))

    def test_no_line(self):
        model = Model(MANY)
        for name in NO_NUMBERS + ["x", "u", "no", "A", "a ", "aa", "sum", 0, 1, ["a"], ("a",), {"a": 1}, b"a", model]:
            check_raised(self, NoLine, {"name": name}, model.kind_of, name)
            check_raised(self, NoLine, {"name": name}, model.classes_of, name)

    def test_how_many_switches(self):
        tree = "tree t\nask 0\nask 1\nask 2\ntell 0\ntell 0\ntell 0\nask 3\ntell 0\ntell 0"
        for lines, many in [
            ("sum f 0 x 1", 0), ("hinge f 0", 1), ("leaky f 2 0 x 1", 1), ("clip f 0 1 0", 2), ("highest f 0 , 0", 1),
            ("highest f 0 , 0 x 1 , 1 , 2", 3), ("tree t\ntell 0", 0), ("tree t\nask 0\ntell 0\ntell 0", 1), (tree, 3),
            ("tree t\nask 0\ntell 0\nask 1\nask 3\ntell 0\ntell 0\nask 2\ntell 0\nask 4\ntell 0\ntell 0", 4),
            ("sign s no yes 0", 1), ("choose s no 0 , yes 0 , low 0 , high 0", 3), ("rules r\nelse no", 0),
            ("rules r\nif no 0\nif no 0 , 1 , 2 x 1\nelse no", 4), ("near n 1 x 1\nrow no 0", 0),
            ("near n 1 x 1" + "\nrow no 0" * 5, 4), ("near n 2 x 1" + "\nrow no 0" * 5, 1 + 2 + 2 + 2),
            ("near n 3 x 1" + "\nrow no 0" * 3, 1 + 2), ("near n 3 x 1" + "\nrow no 0" * 6, 1 + 2 + 3 + 3 + 3),
            ("sign s no yes 0\nvotes v no yes : s s s\ngate g s no s yes v", 1),
            ("hinge f 0\n" + tree + "\nclip g 0 1 0", 6),
        ]:
            self.assertEqual(Model(HEAD + lines).switches, many, lines)

    def test_forty_and_more_switches(self):
        for many in (39, 40, 41, 42, 100):
            texts = [
                "highest f " + " , ".join(["0 x 1"] * (many + 1)), "rules r\n" + "if no 0 x 1\n" * many + "else no",
                "rules r\nif no " + " , ".join(["1"] * many) + "\nelse no", "near n 1 x 1" + "\nrow no 0" * (many + 1),
                "tree t\n" + "ask 0\n" * many + "tell 0\n" * many + "tell 0",
                "tree t\n" + "ask 0\nclass no\n" * many + "class no",
                "clip f 0 1 0\nleaky h 0 0\nsign s no yes 0\nhinge i 0\nhighest g " + " , ".join(["0"] * (many - 4)),
            ]
            for lines in texts:
                if many <= 40:
                    self.assertEqual(Model(HEAD + lines).switches, many)
                else:
                    check_raised(self, TooLarge, {"what": "switches", "many": many, "limit": 40}, Model, HEAD + lines)

    def walk(self, text, letters, answers, whole):
        """The result of a walk with these answers in turn, and the planes that were asked."""
        model = Model(text)
        asked, left = [], list(answers)

        def ask(one):
            asked.append(one)
            return left.pop(0)

        before = tuple(numbers(letter) for letter in letters)
        found = model.all_walked(letters, ask) if whole else model.walked(letters, ask)
        self.assertEqual(left, [])
        self.assertEqual(tuple(numbers(letter) for letter in letters), before)
        for one in asked:
            self.assertIs(type(one), Plane)
        return found, [numbers(one) for one in asked]

    def check_walk(self, lines, answers, told, asked):
        """Lines over one letter x; u is the number 1. Planes are pairs (number, multiple)."""
        letters = (letter_plane(0, 1), number_plane(1, 1))
        found, planes = self.walk(HEAD + lines, letters, answers, False)
        self.assertEqual(found if isinstance(found, str) else numbers(found), told)
        self.assertEqual(planes, asked)

    def test_switches_of_values(self):
        self.check_walk("sum f 1 x 2 u 3", [], (4, 2), [])
        self.check_walk("hinge f 1 x 2 u 3", [0], (0, 0), [(4, 2)])
        self.check_walk("hinge f 1 x 2 u 3", [1], (4, 2), [(4, 2)])
        self.check_walk("leaky f 1/2 1 x 2 u 3", [0], (2, 1), [(4, 2)])
        self.check_walk("leaky f 1/2 1 x 2 u 3", [1], (4, 2), [(4, 2)])
        self.check_walk("leaky f -3 0", [0], (0, 0), [(0, 0)])
        self.check_walk("clip f -1 2 0 x 1", [0], (-1, 0), [(1, 1)])
        self.check_walk("clip f -1 2 0 x 1", [1, 0], (0, 1), [(1, 1), (-2, 1)])
        self.check_walk("clip f -1 2 0 x 1", [1, 1], (2, 0), [(1, 1), (-2, 1)])
        highest = "highest f 0 x 1 , 5 , 0 x -1 , 1"
        self.check_walk(highest, [0, 0, 0], (0, 1), [(5, -1), (0, -2), (1, -1)])
        self.check_walk(highest, [1, 0, 1], (1, 0), [(5, -1), (-5, -1), (-4, 0)])
        self.check_walk(highest, [0, 1, 0], (0, -1), [(5, -1), (0, -2), (1, 1)])
        tree = "tree t\nask 0 x 1\nask 1\ntell 1\ntell 2 x 1\nask 2 u 1\ntell 3\nask 5\ntell 4\ntell 5"
        self.check_walk(tree, [0, 0], (1, 0), [(0, 1), (1, 0)])
        self.check_walk(tree, [0, 1], (2, 1), [(0, 1), (1, 0)])
        self.check_walk(tree, [1, 0], (3, 0), [(0, 1), (3, 0)])
        self.check_walk(tree, [1, 1, 0], (4, 0), [(0, 1), (3, 0), (5, 0)])
        self.check_walk(tree, [1, 1, 1], (5, 0), [(0, 1), (3, 0), (5, 0)])

    def test_switches_of_verdicts(self):
        self.check_walk("sign s no yes 1 x 2", [0], "no", [(1, 2)])
        self.check_walk("sign s no yes 1 x 2", [1], "yes", [(1, 2)])
        choose = "choose c no 0 x 1 , yes 5 , low 0 x -1"
        self.check_walk(choose, [0, 0], "no", [(5, -1), (0, -2)])
        self.check_walk(choose, [1, 0], "yes", [(5, -1), (-5, -1)])
        self.check_walk(choose, [1, 1], "low", [(5, -1), (-5, -1)])
        self.check_walk(choose, [0, 1], "low", [(5, -1), (0, -2)])
        rules = "rules r\nif a 0 x 1 , 1\nif b 2\nelse c"
        self.check_walk(rules, [1, 1], "a", [(0, 1), (1, 0)])
        self.check_walk(rules, [1, 0, 1], "b", [(0, 1), (1, 0), (2, 0)])
        self.check_walk(rules, [0, 1], "b", [(0, 1), (2, 0)])
        self.check_walk(rules, [0, 0], "c", [(0, 1), (2, 0)])
        self.check_walk(rules, [1, 0, 0], "c", [(0, 1), (1, 0), (2, 0)])
        self.check_walk("rules r\nelse c", [], "c", [])

    def test_switches_of_near(self):
        # The distances of a row at a are (x - a) squared, over 4.
        near = "near n 1 x 2\nrow a 0\nrow b 2\nrow c -1"
        self.check_walk(near, [0, 0], "a", [(-1, 1), (Fraction(-1, 4), Fraction(-1, 2))])
        self.check_walk(near, [1, 0], "b", [(-1, 1), (Fraction(3, 4), Fraction(-3, 2))])
        self.check_walk(near, [1, 1], "c", [(-1, 1), (Fraction(3, 4), Fraction(-3, 2))])
        two = "near n 2 x 1\nrow a 0\nrow b 1\nrow b 2"
        self.check_walk(two, [0, 0], "a", [(-1, 2), (-3, 2)])
        self.check_walk(two, [0, 1, 0], "a", [(-1, 2), (-3, 2), (-4, 4)])
        self.check_walk(two, [0, 1, 1], "a", [(-1, 2), (-3, 2), (-4, 4)])
        self.check_walk(two, [1, 0], "a", [(-1, 2), (-4, 4)])
        self.check_walk(two, [1, 1, 0], "b", [(-1, 2), (-4, 4), (-3, 2)])
        self.check_walk(two, [1, 1, 1], "b", [(-1, 2), (-4, 4), (-3, 2)])
        self.check_walk("near n 1 u 1\nrow a 0\nrow b 1\nrow b 1", [1, 0], "b", [(1, 0), (0, 0)])
        self.check_walk("near n 3 x 1 u 3\nrow a 0 0\nrow b 0 0\nrow b 0 1", [0, 0], "b", [(0, 0), (Fraction(1, 9), 0)])

    def test_gates_and_votes_ask_nothing(self):
        lines = "sign s no yes 0 x 1\nsign t yes no 1\nsum f 3 x 1\nsum g 4\n"
        self.check_walk(lines + "gate k s no f yes g", [0, 0], (3, 1), [(0, 1), (1, 0)])
        self.check_walk(lines + "gate k s no f yes g", [1, 0], (4, 0), [(0, 1), (1, 0)])
        self.check_walk(lines + "gate k s no s yes t", [1, 1], "no", [(0, 1), (1, 0)])
        self.check_walk(lines + "votes v yes no : s t", [0, 0], "yes", [(0, 1), (1, 0)])
        self.check_walk(lines + "votes v no yes : s t", [0, 0], "no", [(0, 1), (1, 0)])
        self.check_walk(lines + "votes v no yes : s t t", [0, 0], "yes", [(0, 1), (1, 0)])

    def test_lines_that_nothing_uses_are_asked(self):
        self.check_walk("hinge a 7 x 1\nsign s no yes 0 x 3\nsum f 1", [1, 0], (1, 0), [(7, 1), (0, 3)])

    def test_all_walked(self):
        letters = (letter_plane(0, 2), letter_plane(1, 2))
        text = HEAD + "hinge a 7 x 1 u 2\nsign s no yes 0 a 3\nsum f 1 a -1"
        found, asked = self.walk(text, letters, [1, 0], True)
        self.assertIs(type(found), dict)
        self.assertEqual(list(found), ["a", "s", "f"])
        self.assertEqual((numbers(found["a"]), found["s"], numbers(found["f"])), ((7, 1, 2), "no", (-6, -1, -2)))
        self.assertEqual(asked, [(7, 1, 2), (21, 3, 6)])
        found.clear()
        again, _ = self.walk(text, letters, [1, 0], True)
        self.assertEqual(list(again), ["a", "s", "f"])

    def test_the_dict_is_new_each_time(self):
        model = Model("fraction x\nsum a 1 x 1")
        letters = (letter_plane(0, 1),)
        one = model.all_walked(letters, lambda _: 0)
        one["a"] = None
        self.assertEqual(numbers(model.all_walked(letters, lambda _: 0)["a"]), (1, 1))

    def test_planes_of_any_size_replace_the_features(self):
        rng = random.Random(31)
        for text in some_texts(rng, 150, 5):
            apart = Text(text)
            for size in (0, 1, 4):
                letters = [plane(*[rng.randint(-3, 3) for _ in range(size + 1)]) for _ in apart.names]
                point = [Fraction(rng.randint(-9, 9), rng.randint(1, 4)) for _ in range(size)]
                self.check_planes(rng, text, tuple(letters), point)

    def check_planes(self, rng, text, letters, point):
        """At a point all planes are the numbers that the model has there under the same answers."""
        apart = Text(text)
        answers, planes, worths = [], [], []

        def ask(one):
            planes.append(one)
            answers.append(rng.randint(0, 1))
            return answers[-1]

        found = Model(text).all_walked(letters, ask)
        left = list(answers)

        def answer_again(number):
            worths.append(number)
            return left.pop(0)

        told = apart.walk({name: worth(letter, point) for name, letter in zip(apart.names, letters)}, answer_again)
        self.assertEqual([worth(one, point) for one in planes], worths)
        self.assertEqual([one.size for one in planes], [letters[0].size] * len(planes))
        self.assertEqual(left, [])
        self.assertEqual({name: one if isinstance(one, str) else worth(one, point) for name, one in found.items()},
                         told)
        self.assertEqual(list(found), list(told))
        again = iter(answers)
        last = Model(text).walked(letters, lambda _: next(again))
        self.assertEqual(last, list(found.values())[-1])

    def test_long_numbers(self):
        top, bottom = "7" * 4000, "3" * 3999 + "1"
        model = Model(f"fraction x\nsum f {top}/{bottom} x -{top}\nhinge g 0 x 1 f 1/{bottom}")
        found = model.all_walked((letter_plane(0, 1),), lambda _: 1)
        long = Fraction(int(top), int(bottom))
        self.assertEqual(numbers(found["f"]), (long, -int(top)))
        self.assertEqual(numbers(found["g"]), (long / int(bottom), 1 - Fraction(int(top), int(bottom))))
        self.assertEqual(fraction(ratio(long)), long)


if __name__ == "__main__":
    unittest.main()
