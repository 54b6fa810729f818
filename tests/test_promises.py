import unittest
from fractions import Fraction

from checking import NO_NUMBERS, check_raised, fractions
from hingeworks.desks import Desk
from hingeworks.errors import BadNumber, Broken, NoFeature, NoModel, NotContinuous, TooLarge, Unlike
from hingeworks.ratios import Ratio
from judging import check_differ_only_in, check_given, told_at
from test_desks import NO_NAMES, seen

UNIT = "fraction x from 0 to 1\n"
PAIR = "fraction x from 0 to 1\nyesno u\n"
RISING = PAIR + "sum f 0 x 1 u 1"
FALLING = PAIR + "sum f 0 x -1 u 1"
BENT = PAIR + "hinge a -1/2 x 1\nsum f 0 x 1 u 1 a 1"
SIGN = PAIR + "sign s no yes -1/2 x 1"
DOT = PAIR + "tree t\nask 0 x 1\ntell 1\ntell 0"


def desk_of(**texts):
    desk = Desk()
    for name, text in texts.items():
        desk.put(name, text)
    return desk


class PromisesTest(unittest.TestCase):
    def refused(self, desk, promise, call, *given):
        """The act would break this promise; nothing is changed, and what shows it is returned."""
        before = seen(desk)
        with self.assertRaises(Broken) as caught:
            call(*given)
        self.assertIs(type(caught.exception), Broken)
        self.assertEqual(caught.exception.promise, promise)
        self.assertEqual(seen(desk), before)
        return caught.exception.given

    def check_pair(self, text, feature, pair, falls):
        """A pair of inputs as falling_pair or blind_pair returns it."""
        self.assertEqual((type(pair), len(pair)), (tuple, 2))
        check_differ_only_in(self, text, feature, *pair)
        first, second = [fractions(given) for given in pair]
        if falls:
            self.assertLess(first, second)
            self.assertGreater(told_at(text, first), told_at(text, second))
        else:
            self.assertNotEqual(told_at(text, first), told_at(text, second))

    def check_apart(self, one, other, given, by=None):
        numbers = check_given(self, one, given)
        gap = None if by is None else abs(told_at(one, numbers) - told_at(other, numbers))
        if by is None:
            self.assertNotEqual(told_at(one, numbers), told_at(other, numbers))
        else:
            self.assertGreater(gap, by)

    def test_rising(self):
        desk = desk_of(up=RISING, down=FALLING)
        promise = ("rising", "x")
        self.assertIsNone(desk.add_promise("up", promise))
        self.assertEqual((desk.promises_of("up"), desk.promises_of("down"), desk.acts), ((promise,), (), 3))
        self.check_pair(FALLING, "x", self.refused(desk, promise, desk.add_promise, "down", promise), True)
        self.check_pair(FALLING, "x", self.refused(desk, promise, desk.set_model, "up", "down"), True)
        desk.add_promise("down", ("rising", "u"))
        desk.set_model("down", "up")
        self.assertEqual(desk.promises_of("down"), (("rising", "u"),))
        self.assertIsNone(desk.end_promise("up", promise))
        desk.put("low", FALLING)
        desk.set_model("up", "low")
        self.assertEqual((desk.promises_of("up"), desk.model_of("up").text), ((), FALLING))

    def test_blind(self):
        desk = desk_of(flat=PAIR + "sum f 3 u 1", sign=SIGN, up=RISING)
        for promise in (("blind", "x"), ("blind", "u")):
            if promise[1] == "x":
                desk.add_promise("flat", promise)
            else:
                desk.add_promise("sign", promise)
        self.check_pair(SIGN, "x", self.refused(desk, ("blind", "x"), desk.add_promise, "sign", ("blind", "x")), False)
        self.check_pair(RISING, "x", self.refused(desk, ("blind", "x"), desk.set_model, "flat", "up"), False)
        self.check_pair(RISING, "u", self.refused(desk, ("blind", "u"), desk.set_model, "sign", "up"), False)
        # One of another kind may keep it.
        desk.put("one", PAIR + "rules r\nelse no")
        desk.set_model("flat", "one")
        self.assertEqual(desk.model_of("flat").tells, "class")

    def test_alike(self):
        desk = desk_of(a=BENT, b=RISING)
        desk.derive("c", "a", ("tree",))
        desk.add_promise("a", ("alike", "c"))
        self.check_apart(BENT, RISING, self.refused(desk, ("alike", "b"), desk.add_promise, "a", ("alike", "b")))
        # It is broken by the model it is about, and by the other one.
        self.check_apart(RISING, BENT, self.refused(desk, ("alike", "c"), desk.set_model, "a", "b"))
        self.check_apart(BENT, RISING, self.refused(desk, ("alike", "c"), desk.set_model, "c", "b"))
        desk.set_model("a", "c")
        desk.set_model("c", "a")
        desk.add_promise("b", ("alike", "b"))
        desk.set_model("b", "a")
        self.assertEqual(desk.promises_of("b"), (("alike", "b"),))

    def test_within(self):
        desk = desk_of(a=BENT, b=RISING, c=FALLING)
        half = Fraction(1, 2)
        self.check_apart(BENT, RISING, self.refused(desk, ("within", "b", 0), desk.add_promise, "a", ("within", "b", 0)), 0)
        self.check_apart(BENT, RISING, self.refused(desk, ("within", "b", Ratio(499, 1000)), desk.add_promise, "a", ("within", "b", Ratio(499, 1000))),
                         Fraction(499, 1000))
        desk.add_promise("a", ("within", "b", Ratio(1, 2)))
        desk.add_promise("b", ("within", "a", 1))
        # The difference may be above or below.
        self.check_apart(FALLING, RISING, self.refused(desk, ("within", "b", Ratio(1, 2)), desk.set_model, "a", "c"), half)
        self.check_apart(BENT, FALLING, self.refused(desk, ("within", "b", Ratio(1, 2)), desk.set_model, "b", "c"), half)
        desk.set_model("b", "a")
        desk.end_promise("a", ("within", "b", Ratio(1, 2)))
        self.assertEqual(desk.promises_of("b"), (("within", "a", Ratio(1)),))
        self.assertIs(type(desk.promises_of("b")[0][2]), Ratio)

    def test_within_at_the_difference_and_near_it(self):
        near = UNIT + "tree t\nask -1/2 x 1\ntell 0\ntell 5/2 x -1"
        desk = desk_of(near=near, zero=UNIT + "sum f 0", ramp="fraction x\nsum f 0 x 1", flat="fraction x\nsum f 0")
        desk.add_promise("near", ("within", "zero", 2))
        by = Ratio(1999999, 1000000)
        self.check_apart(near, UNIT + "sum f 0", self.refused(desk, ("within", "zero", by), desk.add_promise, "near", ("within", "zero", by)), Fraction(1999999, 1000000))
        self.check_apart("fraction x\nsum f 0 x 1", "fraction x\nsum f 0",
                         self.refused(desk, ("within", "flat", 10 ** 30), desk.add_promise, "ramp", ("within", "flat", 10 ** 30)), 10 ** 30)

    def test_the_first_broken_promise(self):
        desk = desk_of(a=RISING, b=RISING, c=RISING, low=FALLING, sign=SIGN)
        desk.add_promise("c", ("alike", "b"))
        desk.add_promise("b", ("within", "c", 0))
        desk.add_promise("b", ("rising", "x"))
        desk.add_promise("a", ("rising", "x"))
        desk.add_promise("a", ("alike", "b"))
        # By the names in their order, then by the promises in the order in which they were made.
        self.check_apart(RISING, FALLING, self.refused(desk, ("alike", "b"), desk.set_model, "b", "low"))
        desk.end_promise("a", ("alike", "b"))
        self.check_apart(FALLING, RISING, self.refused(desk, ("within", "c", Ratio(0)), desk.set_model, "b", "low"), 0)
        desk.end_promise("b", ("within", "c", 0))
        self.check_pair(FALLING, "x", self.refused(desk, ("rising", "x"), desk.set_model, "b", "low"), True)
        desk.end_promise("b", ("rising", "x"))
        self.check_apart(RISING, FALLING, self.refused(desk, ("alike", "b"), desk.set_model, "b", "low"))
        desk.end_promise("c", ("alike", "b"))
        desk.set_model("b", "low")
        # Promises that do not speak of the name are not asked.
        self.assertEqual(desk.promises_of("a"), (("rising", "x"),))

    def test_the_errors_of_a_question_come_with_its_promise(self):
        desk = desk_of(a=RISING, b=RISING, low=FALLING, sign=SIGN, dot=DOT, other=UNIT + "sum f 0")
        desk.add_promise("a", ("alike", "b"))
        desk.add_promise("a", ("rising", "x"))
        for name, source, error, fields in [
            ("a", "sign", Unlike, {"what": "kind"}), ("b", "sign", Unlike, {"what": "kind"}), ("a", "other", Unlike, {"what": "features"}),
            ("b", "other", Unlike, {"what": "features"}),
        ]:
            before = seen(desk)
            check_raised(self, error, fields, desk.set_model, name, source)
            self.assertEqual(seen(desk), before)
        # Broken comes first where its promise comes first.
        self.refused(desk, ("alike", "b"), desk.set_model, "a", "dot")
        desk.end_promise("a", ("alike", "b"))
        check_raised(self, NotContinuous, {}, desk.set_model, "a", "dot")
        desk.end_promise("a", ("rising", "x"))
        desk.add_promise("a", ("rising", "u"))
        desk.put("v", "fraction x from 0 to 1\nyesno v\nsum f 0 v 1")
        check_raised(self, NoFeature, {"name": "u"}, desk.set_model, "a", "v")
        check_raised(self, Unlike, {"what": "kind"}, desk.set_model, "a", "sign")

    def test_wrong_promises(self):
        desk = desk_of(a=RISING, sign=SIGN, dot=DOT, other=UNIT + "sum f 0", deep=PAIR + "highest h " + " , ".join(["0"] * 41))
        before = seen(desk)
        for name in ("none", *NO_NAMES):
            check_raised(self, NoModel, {"name": name}, desk.add_promise, name, None)
            check_raised(self, NoModel, {"name": name}, desk.end_promise, name, None)
        for promise in (None, "rising", ("rising",), ["rising", "x"], ("rising", "x", 0), ("falling", "x"), (), ("x", "rising"), (None, "x"), ("alike",),
                        ("alike", "a", 0), ("within", "a"), ("within", "a", 0, 0), ("blind", "x", "u"), (["rising"], "x"), 5, {}, object(), ("Rising", "x")):
            check_raised(self, BadNumber, {"what": "promise", "number": promise}, desk.add_promise, "a", promise)
        for name in ("none", *NO_NAMES):
            for promise in (("alike", name), ("within", name, 0), ("within", name, -1), ("within", name, None)):
                check_raised(self, NoModel, {"name": name}, desk.add_promise, "a", promise)
        for by in (*NO_NUMBERS, -1, Ratio(-1, 3)):
            for other in ("a", "sign"):
                check_raised(self, BadNumber, {"what": "by", "number": by}, desk.add_promise, "a", ("within", other, by))
        for name, promise, error, fields in [
            ("sign", ("rising", "z"), Unlike, {"what": "kind"}), ("a", ("rising", "z"), NoFeature, {"name": "z"}), ("a", ("blind", None), NoFeature, {"name": None}),
            ("a", ("rising", ["x"]), NoFeature, {"name": ["x"]}), ("dot", ("rising", "x"), NotContinuous, {}), ("a", ("alike", "sign"), Unlike, {"what": "kind"}),
            ("deep", ("rising", "u"), TooLarge, {"what": "switches", "many": 80, "limit": 40}), ("deep", ("blind", "x"), TooLarge, {"what": "switches", "many": 80, "limit": 40}),
            ("deep", ("alike", "dot"), TooLarge, {"what": "switches", "many": 41, "limit": 40}), ("dot", ("within", "deep", 0), TooLarge, {"what": "switches", "many": 41, "limit": 40}),
            ("sign", ("within", "sign", 0), Unlike, {"what": "kind"}), ("sign", ("within", "a", 0), Unlike, {"what": "kind"}),
            ("a", ("within", "sign", 0), Unlike, {"what": "kind"}), ("a", ("within", "other", 0), Unlike, {"what": "features"}),
            ("other", ("within", "sign", 0), Unlike, {"what": "features"}), ("a", ("alike", "other"), Unlike, {"what": "features"}),
        ]:
            check_raised(self, error, fields, desk.add_promise, name, promise)
        self.assertEqual(seen(desk), before)

    def test_a_promise_that_stands_already(self):
        desk = desk_of(a=RISING, b=RISING)
        for promise in (("rising", "x"), ("rising", "u"), ("alike", "b"), ("within", "b", 1)):
            desk.add_promise("a", promise)
        before = seen(desk)
        for promise in (("rising", "x"), ("alike", "b"), ("within", "b", 1), ("within", "b", Ratio(1)), ("within", "b", Ratio(5, 5))):
            self.assertIsNone(desk.add_promise("a", promise))
            self.assertEqual(seen(desk), before)
        desk.add_promise("a", ("within", "b", Ratio(1, 2)))
        self.assertEqual(desk.promises_of("a"), (("rising", "x"), ("rising", "u"), ("alike", "b"), ("within", "b", Ratio(1)), ("within", "b", Ratio(1, 2))))
        self.assertEqual(desk.acts, 7)
        # About the other model it is another promise.
        desk.add_promise("b", ("rising", "x"))
        self.assertEqual(desk.acts, 8)

    def test_ended_promises(self):
        desk = desk_of(a=RISING, b=RISING)
        for promise in (("rising", "x"), ("within", "b", 1), ("alike", "b")):
            desk.add_promise("a", promise)
        for promise in (None, "rising", ("rising", "u"), ["rising", "x"], ("rising",), ("within", "b", 2), ("within", "b", True), ("within", "b", "1"), ("within", "b"),
                        ("alike", "a"), ("within", "a", 1), (), object(), ("rising", "x", 0)):
            check_raised(self, BadNumber, {"what": "promise", "number": promise}, desk.end_promise, "a", promise)
        check_raised(self, BadNumber, {"what": "promise", "number": ("rising", "x")}, desk.end_promise, "b", ("rising", "x"))
        self.assertIsNone(desk.end_promise("a", ("within", "b", 1)))
        self.assertEqual((desk.promises_of("a"), desk.acts), ((("rising", "x"), ("alike", "b")), 6))
        check_raised(self, BadNumber, {"what": "promise", "number": ("within", "b", 1)}, desk.end_promise, "a", ("within", "b", 1))
        desk.add_promise("a", ("within", "b", Ratio(1)))
        desk.end_promise("a", ("within", "b", Ratio(2, 2)))
        # Ended and made again it is the last one.
        desk.end_promise("a", ("rising", "x"))
        desk.add_promise("a", ("rising", "x"))
        self.assertEqual(desk.promises_of("a"), (("alike", "b"), ("rising", "x")))

    def test_promises_come_back_with_undo(self):
        desk = desk_of(a=RISING, b=FALLING)
        desk.add_promise("a", ("rising", "x"))
        desk.end_promise("a", ("rising", "x"))
        desk.set_model("a", "b")
        desk.undo()
        desk.undo()
        self.check_pair(FALLING, "x", self.refused(desk, ("rising", "x"), desk.set_model, "a", "b"), True)
        desk.redo()
        desk.set_model("a", "b")
        self.assertEqual(desk.model_of("a").text, FALLING)
        desk.undo()
        desk.undo()
        desk.drop("a")
        desk.undo()
        self.assertEqual(desk.promises_of("a"), (("rising", "x"),))

    def test_promises_within_tried(self):
        desk = desk_of(a=RISING, b=FALLING)
        self.assertIsNone(desk.tried(lambda: desk.add_promise("a", ("rising", "x"))))
        desk.set_model("a", "b")
        self.refused(desk, ("rising", "x"), desk.tried, lambda: desk.add_promise("a", ("rising", "x")))


if __name__ == "__main__":
    unittest.main()
