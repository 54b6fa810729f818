import random
import unittest

from checking import check_raised, numbers
from hingeworks.asking import Asked, asked
from hingeworks.errors import BadAnswers, BadGiven
from hingeworks.models import Model
from hingeworks.planes import Plane
from hingeworks.ratios import Ratio
from modeltexts import some_texts
from reference import Text

TEXT = "fraction x from 0 to 1\nyesno u\nfraction y\nhinge a -1/2 x 1 u 1\nsum b 0 a 2\nsign s no yes 0 y 1 b 1"
NO_ANSWERS = [True, False, 2, -1, None, "0", "", (0,), [1], 0.0, 1.0, Ratio(0), Ratio(1), b"0", {}]


class AskingTest(unittest.TestCase):
    def check(self, model, settings, answers, word, told):
        found = asked(model, settings, answers)
        self.assertIs(type(found), Asked)
        kept, other = (found.plane, found.told) if word == "ask" else (found.told, found.plane)
        self.assertIsNone(other)
        if isinstance(told, str):
            self.assertEqual(kept, told)
        else:
            self.assertIs(type(kept), Plane)
            self.assertEqual(numbers(kept), told)

    def test_switches_and_results(self):
        model = Model(TEXT)
        self.check(model, (1,), (), "ask", (0.5, 1, 0))
        self.check(model, (0,), [], "ask", (-0.5, 1, 0))
        self.check(model, (0,), (0,), "ask", (0, 0, 1))
        self.check(model, (0,), [1], "ask", (-1, 2, 1))
        self.check(model, (1,), [1], "ask", (1, 2, 1))
        self.check(model, (1,), (1, 0), "told", "no")
        self.check(model, (1,), [0, 1], "told", "yes")

    def test_answers_that_no_input_gives(self):
        model = Model("fraction x from 0 to 1\nhinge a 5 x 1\nhinge b -9\nsum f 0 a 1 b 1")
        self.check(model, (), (), "ask", (5, 1))
        self.check(model, (), (0,), "ask", (-9, 0))
        self.check(model, (), (0, 1), "told", (-9, 0))
        self.check(model, (), (1, 1), "told", (-4, 1))

    def test_no_switches(self):
        self.check(Model("yesno u\nyesno v\nsum f 0 u 1 v 3"), (1, 1), (), "told", (4,))
        self.check(Model("fraction x\nrules r\nelse no"), (), [], "told", "no")

    def test_against_the_reference(self):
        rng = random.Random(61)
        for text in some_texts(rng, 150, 4):
            model, apart = Model(text), Text(text)
            settings = tuple(rng.randint(0, 1) for _ in apart.yesnos)
            answers = []
            while True:
                word, told = apart.told_after(settings, answers)
                kind = rng.choice([tuple, list])
                self.check(model, settings, kind(answers), word, told)
                if word == "told":
                    break
                answers.append(rng.randint(0, 1))
            check_raised(self, BadAnswers, {"place": len(answers)}, asked, model, settings, [*answers, 0])

    def test_wrong_settings(self):
        model = Model(TEXT)
        for settings in ((), (0, 0), [0], 0, None, "0", True, {0: 0}, *[(value,) for value in NO_ANSWERS]):
            check_raised(self, BadGiven, {"what": "settings"}, asked, model, settings, ())
        plain = Model("fraction x\nsum f 0")
        check_raised(self, BadGiven, {"what": "settings"}, asked, plain, (0,), ())
        check_raised(self, BadGiven, {"what": "settings"}, asked, plain, [], ())

    def test_wrong_answers(self):
        model = Model(TEXT)
        for value in NO_ANSWERS:
            for place in range(3):
                answers = [0, 1][:place] + [value] + [1, 0][place:]
                check_raised(self, BadAnswers, {"place": place}, asked, model, (0,), answers)
                check_raised(self, BadAnswers, {"place": place}, asked, model, (0,), tuple(answers))
            check_raised(self, BadAnswers, {"place": 1}, asked, model, (0,), [0, value, value])
            check_raised(self, BadAnswers, {"place": 2}, asked, model, (0,), [0, 1, 1, value])

    def test_too_many_answers(self):
        model = Model(TEXT)
        check_raised(self, BadAnswers, {"place": 2}, asked, model, (0,), (0, 0, 0))
        check_raised(self, BadAnswers, {"place": 2}, asked, model, (0,), [1, 1, 1, 1, 1])
        check_raised(self, BadAnswers, {"place": 0}, asked, Model("fraction x\nsum f 0"), (), (0,))
        tree = Model("fraction x\ntree t\nask 0 x 1\ntell 0\nask 1 x 1\ntell 1\ntell 2")
        check_raised(self, BadAnswers, {"place": 1}, asked, tree, (), (0, 0))
        check_raised(self, BadAnswers, {"place": 2}, asked, tree, (), (1, 0, 0))

    def test_answers_that_are_no_tuple_and_no_list(self):
        for answers in (None, "01", "", 0, True, {0: 1}, {}, b"", iter(()), range(2), Ratio(0)):
            check_raised(self, BadAnswers, {"place": 0}, asked, Model(TEXT), (0,), answers)

    def test_the_order_of_errors(self):
        for answers in (None, [2], [0, 0, 0]):
            check_raised(self, BadGiven, {"what": "settings"}, asked, Model(TEXT), (2,), answers)

    def test_nothing_changed_and_asked_again(self):
        model = Model(TEXT)
        answers = [1, 0]
        one, other = asked(model, (1,), answers), asked(model, (1,), answers)
        self.assertEqual(one.told, other.told)
        self.assertEqual(answers, [1, 0])
        bad = [1, 2]
        check_raised(self, BadAnswers, {"place": 1}, asked, model, (1,), bad)
        self.assertEqual(bad, [1, 2])
        self.assertEqual(model, Model(TEXT))


if __name__ == "__main__":
    unittest.main()
