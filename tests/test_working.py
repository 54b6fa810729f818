import random
import unittest
from fractions import Fraction

from checking import NO_NUMBERS, check_raised, check_ratio, fraction, ratio
from hingeworks.errors import BadGiven
from hingeworks.models import Model
from hingeworks.ratios import Ratio
from hingeworks.working import Worked, worked
from modeltexts import random_input, some_texts
from reference import Text

HEAD = "fraction x\nfraction y\nyesno u\n"


class WorkingTest(unittest.TestCase):
    def check(self, lines, told, answers, *given):
        """What the lines tell of an input (x, y, u), of which the last items may be left out and are 0."""
        given = (*given, 0, 0, 0)[:3]
        found = worked(Model(HEAD + lines), tuple(ratio(number) for number in given))
        self.assertIs(type(found), Worked)
        if isinstance(told, str):
            self.assertEqual(found.told, told)
        else:
            check_ratio(self, found.told, Fraction(told))
        self.assertEqual(found.answers, answers)
        self.assertIs(type(found.answers), tuple)
        self.assertEqual([type(answer) for answer in found.answers], [int] * len(answers))

    def test_sums(self):
        self.check("sum f 1 x 2 y -1/2 u 3", Fraction(15, 2), (), 2, 1, 1)
        self.check("sum f 1/3\nsum g 0 f -3", -1, ())

    def test_hinges(self):
        for lines, off in (("hinge f -1 x 1", 0), ("leaky f 0 -1 x 1", 0)):
            self.check(lines, off, (0,), 0)
            self.check(lines, off, (0,), 1)
            self.check(lines, Fraction(1, 10 ** 50), (1,), 1 + Fraction(1, 10 ** 50))
        self.check("leaky f 1/2 -1 x 1", Fraction(-1, 2), (0,), 0)
        self.check("leaky f 1/2 -1 x 1", 0, (0,), 1)
        self.check("leaky f 1/2 -1 x 1", 4, (1,), 5)
        self.check("leaky f -1 0 x 1", 3, (0,), -3)
        self.check("leaky f 1 0 x 1", -3, (0,), -3)

    def test_clip(self):
        for x, told, answers in ((-2, -1, (0,)), (-1, -1, (0,)), (0, 0, (1, 0)), (2, 2, (1, 0)),
                                 (Fraction(9, 4), 2, (1, 1))):
            self.check("clip f -1 2 0 x 1", told, answers, x)

    def test_highest(self):
        lines = "highest f 0 x 1 , 0 y 1 , 1"
        self.check(lines, 1, (0, 1), 0, 0)
        self.check(lines, 1, (0, 0), 1, 1)
        self.check(lines, 3, (1, 0), 2, 3)
        self.check(lines, 3, (0, 0), 3, 3)
        self.check("highest f 0 , 0 x 1 , 0 x 2\nsum g 0", 0, (0, 0))

    def test_trees(self):
        lines = "tree t\nask 0 x 1\ntell 7\nask 0 y 1\ntell 1 x 2\ntell 2"
        self.check(lines, 7, (0,), 0, 5)
        self.check(lines, 3, (1, 0), 1, 0)
        self.check(lines, 2, (1, 1), 1, 1)
        self.check("tree t\ntell 1 x 1", 5, (), 4)
        self.check("tree t\nask 0 x 1\nclass a\nclass b", "a", (0,), 0)
        self.check("tree t\nask 0 x 1\nclass a\nclass b", "b", (1,), 1)
        self.check("tree t\nclass a", "a", ())

    def test_signs_and_choose(self):
        self.check("sign s no yes 0 x 1 y -1", "no", (0,), 2, 2)
        self.check("sign s no yes 0 x 1 y -1", "yes", (1,), 3, 2)
        self.check("sign s no yes 0 x 1 y -1", "no", (0,), 1, 2)
        lines = "choose c no 0 , yes 0 x 1 , low 0 y 1"
        self.check(lines, "no", (0, 0), 0, 0)
        self.check(lines, "yes", (1, 0), 1, 1)
        self.check(lines, "low", (1, 1), 1, 2)
        self.check(lines, "low", (0, 1), 0, 2)

    def test_rules(self):
        lines = "rules r\nif a 0 x 1 , 0 y 1\nif b 1 x 1\nelse c"
        self.check(lines, "a", (1, 1), 1, 1)
        self.check(lines, "b", (1, 0, 1), 1, 0)
        self.check(lines, "b", (0, 1), 0, 1)
        self.check(lines, "c", (0, 0), -1, 5)
        self.check("rules r\nelse c", "c", ())

    def test_near(self):
        one = "near n 1 x 1 y 1\nrow a 0 0\nrow b 2 0\nrow c 0 2"
        self.check(one, "a", (0, 0), 0, 0)
        self.check(one, "a", (0, 0), 1, 1)
        self.check(one, "b", (1, 0), 2, 1)
        self.check(one, "b", (1, 0), 3, 3)
        self.check(one, "c", (1, 1), 3, 4)
        # The unit decides: 3 away by x is 1 / 4 by its unit 12.
        units = "near n 1 x 12 y 1/2\nrow a 3 0\nrow b 0 1"
        self.check(units, "a", (0,), 0, 0)
        self.check(units.replace("12", "1"), "b", (1,), 0, 0)

    def test_near_with_ties(self):
        # The earlier row stays in front of an equally near one.
        self.check("near n 1 x 1\nrow a 1\nrow b -1", "a", (0,), 0)
        self.check("near n 1 x 1\nrow b -1\nrow a 1", "b", (0,), 0)
        self.check("near n 2 x 1\nrow a 1\nrow b -1\nrow b 1", "a", (0, 0), 0)
        # Of equally many votes the class that comes first in the rows decides, not the nearest one.
        self.check("near n 2 x 1\nrow a 5\nrow b 0", "a", (1,), 0)
        self.check("near n 3 x 1\nrow a 9\nrow b 0\nrow c 1", "a", (1, 1, 0), 0)
        self.check("near n 3 x 1\nrow a 9\nrow b 0\nrow b 1", "b", (1, 1, 0), 0)
        self.check("near n 3 x 1\nrow a 9\nrow b 8\nrow c 7\nrow c 6", "c", (1, 1, 1, 1, 1, 1), 0)
        self.check("near n 2 u 1\nrow a 0\nrow b 1\nrow b 1", "b", (1, 1, 0), 0, 0, 1)

    def test_votes(self):
        signs = "sign s no yes 0 x 1\nsign t no yes 0 y 1\nsign w low no 0 u 1\n"
        self.check(signs + "votes v no yes : s t s", "yes", (1, 0, 0), 1, 0)
        self.check(signs + "votes v yes no : s t", "yes", (1, 0, 0), 1, 0)
        self.check(signs + "votes v no yes : s t", "no", (1, 0, 0), 1, 0)
        self.check(signs + "votes v low yes no : s t w", "low", (1, 0, 0), 1, 0)
        self.check(signs + "votes v low yes no : s t w", "no", (1, 0, 1), 1, 0, 1)

    def test_gates(self):
        lines = "sign s no yes 0 x 1\nhinge f 0 x -1\nsum g 0 y 5\n"
        self.check(lines + "gate k s no f yes g", 3, (0, 1), -3, 2)
        self.check(lines + "gate k s no f yes g", 10, (1, 0), 3, 2)
        self.check(lines + "gate k s no f yes f", 3, (0, 1), -3, 2)
        self.check(lines + "sign t up down 0 y 1\ngate k s no s yes t", "no", (0, 1, 1), -3, 2)
        self.check(lines + "sign t up down 0 y 1\ngate k s no s yes t", "down", (1, 0, 1), 3, 2)

    def test_a_plane_that_is_0_is_off(self):
        self.check("hinge a 0 x 1\nsum f 7", 7, (0,), 0)
        self.check("hinge a 0\nsum f 7", 7, (0,), 3)
        self.check("sign s no yes -1/3 x 1 y 1", "no", (0,), Fraction(1, 6), Fraction(1, 6))

    def test_results(self):
        text = "yesno u\nfraction x\nhinge a 0 x 1\nsign s no yes 0 u 1\nsum f 1 a 1"
        found = worked(Model(text), (1, Ratio(7, 2)))
        self.assertIs(type(found.results), dict)
        self.assertEqual(list(found.results), ["a", "s", "f"])
        check_ratio(self, found.results["a"], Fraction(7, 2))
        self.assertEqual(found.results["s"], "yes")
        check_ratio(self, found.results["f"], Fraction(9, 2))
        self.assertEqual((found.told, found.answers), (Ratio(9, 2), (1, 1)))

    def test_the_results_are_new_each_time(self):
        model = Model("fraction x\nsum a 0 x 1")
        found = worked(model, (3,))
        found.results.clear()
        self.assertEqual(worked(model, (3,)).results, {"a": Ratio(3)})

    def test_against_the_reference(self):
        rng = random.Random(41)
        for text in some_texts(rng, 300, 6):
            apart, model = Text(text), Model(text)
            for _ in range(4):
                numbers = random_input(rng, apart)
                given = tuple(ratio(number) for number in numbers)
                told, answers, results, _ = apart.work(dict(zip(apart.names, numbers)))
                found = worked(model, given)
                self.assertEqual(found.answers, answers)
                self.assertEqual(found.told if isinstance(told, str) else fraction(found.told), told)
                self.assertEqual(list(found.results), list(results))
                for name, result in results.items():
                    kept = found.results[name]
                    self.assertEqual(kept if isinstance(result, str) else fraction(kept), result)
                self.assertEqual(worked(model, given).results, found.results)
                self.assertEqual(given, tuple(ratio(number) for number in numbers))

    def test_values_that_are_no_input(self):
        model = Model("fraction x from 0 to 1\nyesno u\nsum f 0 x 1")
        for given in ((), (1,), (1, 1, 1), [1, 1], (2, 1), (-1, 1), (1, 2), (1, -1), (1, Ratio(1, 2)), (Ratio(3, 2), 0),
                      (True, 1), (1, True), (1, None), ("1", 1), (1, "0"), None, 1, "11", {}, (1.0, 1), *NO_NUMBERS):
            check_raised(self, BadGiven, {"what": "given"}, worked, model, given)
        worked(model, (1, Ratio(1)))


if __name__ == "__main__":
    unittest.main()
