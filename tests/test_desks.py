import random
import unittest

from checking import NO_NUMBERS, check_raised
from hingeworks.desks import Desk
from hingeworks.errors import (BadName, BadNumber, BadText, Broken, HingeError, NoModel, NotContinuous, NotFull, NotPlain, NothingToRedo,
                               NothingToUndo, TakenName, TooLarge, TooLong, Unlike)
from hingeworks.features import Features
from hingeworks.growing import grown
from hingeworks.models import Model
from hingeworks.netting import net_of
from hingeworks.ratios import Ratio
from hingeworks.rounding import rounded
from hingeworks.slimming import slimmed
from hingeworks.squares import least_squares
from hingeworks.tables import Table
from hingeworks.treeing import tree_of
from learning import table

UNIT = "fraction x from 0 to 1\n"
RAMP = UNIT + "sum f 0 x 1"
BENT = UNIT + "hinge f -1/3 x 1"
SIGN = UNIT + "sign s no yes -1/2 x 1"
LABELS = table(UNIT[:-1], (0, 1), (1, 3))
CLASSES = table(UNIT[:-1], (0, "a"), (1, "b"))
NO_NAMES = ["", "A", "a1", "abcdefghijklm", "a b", 0, None, True, ["a"], ("a",), {}, object(), b"a"]


def seen(desk):
    """All that a desk shows of itself."""
    return (desk.model_names, desk.acts, [desk.model_of(name).text for name in desk.model_names], [desk.origin_of(name) for name in desk.model_names],
            [desk.promises_of(name) for name in desk.model_names])


def filled():
    desk = Desk()
    desk.put("ramp", RAMP)
    desk.put("bent", BENT)
    desk.put("sign", SIGN)
    return desk


class DeskTest(unittest.TestCase):
    def check_refused(self, desk, error, fields, call, *given):
        """The act is refused, counts for nothing and changes nothing."""
        before = seen(desk)
        check_raised(self, error, fields, call, *given)
        self.assertEqual(seen(desk), before)

    def test_an_empty_desk(self):
        desk = Desk()
        self.assertEqual((desk.model_names, desk.acts), ((), 0))
        check_raised(self, NothingToUndo, {}, desk.undo)
        check_raised(self, NothingToRedo, {}, desk.redo)
        for name in ("a", *NO_NAMES):
            for call in (desk.model_of, desk.origin_of, desk.promises_of, desk.drop):
                check_raised(self, NoModel, {"name": name}, call, name)

    def test_put(self):
        desk = Desk()
        self.assertIsNone(desk.put("b", RAMP))
        self.assertIsNone(desk.put("a", BENT))
        self.assertEqual((desk.model_names, desk.acts), (("b", "a"), 2))
        self.assertIs(type(desk.model_of("a")), Model)
        self.assertEqual((desk.model_of("a").text, desk.model_of("b").text), (BENT, RAMP))
        self.assertEqual((desk.origin_of("a"), desk.promises_of("a")), (("put",), ()))
        for name in NO_NAMES:
            self.check_refused(desk, BadName, {"name": name}, desk.put, name, "wrong")
        for name in ("a", "b"):
            self.check_refused(desk, TakenName, {"name": name}, desk.put, name, "wrong")
        self.check_refused(desk, BadText, {"line": 2, "column": 9}, desk.put, "c", UNIT + "sum f 0 y 1")
        self.check_refused(desk, BadText, {"line": 1, "column": 1}, desk.put, "c", None)
        self.check_refused(desk, TooLarge, {"what": "switches", "many": 41, "limit": 40}, desk.put, "c", UNIT + "highest h " + " , ".join(["0"] * 42))
        for name in ("from", "sum", "abcdefghijkl", "x"):
            desk.put(name, RAMP)
        self.assertEqual(desk.model_names, ("b", "a", "from", "sum", "abcdefghijkl", "x"))

    def test_derive(self):
        desk = filled()
        for name, how, made in [("slim", ("slimmed",), slimmed), ("tree", ("tree",), tree_of), ("net", ("net",), net_of),
                                ("whole", ("rounded", 1), lambda model: rounded(model, 1))]:
            self.assertIsNone(desk.derive(name, "bent", how))
            self.assertEqual(desk.model_of(name), made(Model(BENT)))
            self.assertEqual(desk.origin_of(name), ("derived", "bent", how))
            self.assertIs(desk.origin_of(name)[2], how)
        self.assertEqual((desk.model_names[3:], desk.acts), (("slim", "tree", "net", "whole"), 7))
        for name in NO_NAMES:
            self.check_refused(desk, BadName, {"name": name}, desk.derive, name, "none", None)
        self.check_refused(desk, TakenName, {"name": "net"}, desk.derive, "net", "none", None)
        for source in ("none", *NO_NAMES):
            self.check_refused(desk, NoModel, {"name": source}, desk.derive, "a", source, None)
        for how in self.wrong_forms("slimmed", ("rounded",), ("rounded", 1, 2), ("slimmed", 1), ("tree", 1, 1), ("net", None), ("squares", 0), ("other",)):
            self.check_refused(desk, BadNumber, {"what": "how", "number": how}, desk.derive, "a", "bent", how)
        for grid in (0, *NO_NUMBERS):
            self.check_refused(desk, BadNumber, {"what": "grid", "number": grid}, desk.derive, "a", "bent", ("rounded", grid))
        self.check_refused(desk, Unlike, {"what": "kind"}, desk.derive, "a", "sign", ("net",))

    def wrong_forms(self, word, *others):
        return [None, word, [word], (), 0, (word, word, word, word), (None,), ([word],), {word: 1}, object(), *others]

    def test_the_errors_of_what_is_derived(self):
        desk = filled()
        desk.put("jump", UNIT + "tree t\nask -1/2 x 1\ntell 0\ntell 1")
        desk.put("plain", "yesno u\nsum f 0 u 1")
        desk.put("deep", "yesno u\nfraction x\nhighest h " + " , ".join(["0"] + [f"-{at * (at + 1) // 2} x {at}" for at in range(1, 41)]))
        desk.put("long", UNIT + f"leaky f 1{'0' * 2500} -1 x -1{'0' * 2500}")
        for source, how, error, fields in [("jump", ("net",), NotContinuous, {}), ("plain", ("net",), NotPlain, {"name": "u"}),
                                           ("deep", ("tree",), TooLarge, {"what": "switches", "many": 41, "limit": 40}),
                                           ("long", ("slimmed",), TooLong, {"digits": 5001})]:
            self.check_refused(desk, error, fields, desk.derive, "a", source, how)

    def test_learn(self):
        desk = filled()
        for name, one, how, made in [("line", LABELS, ("squares", 0), least_squares(LABELS)), ("pulled", LABELS, ("squares", Ratio(1, 2)), least_squares(LABELS, Ratio(1, 2))),
                                     ("grown", CLASSES, ("tree", 2, 1), grown(CLASSES, 2, 1)), ("leaf", LABELS, ("tree", 0, 5), grown(LABELS, 0, 5))]:
            self.assertIsNone(desk.learn(name, one, how))
            self.assertEqual(desk.model_of(name), made)
            self.assertEqual(desk.origin_of(name), ("learned", how, 2))
            self.assertIs(desk.origin_of(name)[1], how)
        self.assertEqual(desk.acts, 7)
        empty = Table(Features(UNIT[:-1]), [])
        for name in NO_NAMES:
            self.check_refused(desk, BadName, {"name": name}, desk.learn, name, empty, None)
        self.check_refused(desk, TakenName, {"name": "leaf"}, desk.learn, "leaf", empty, None)
        for how in self.wrong_forms("squares", ("squares",), ("squares", 0, 0), ("tree",), ("tree", 1), ("tree", 1, 1, 1), ("slimmed",), ("near", 1)):
            self.check_refused(desk, BadNumber, {"what": "how", "number": how}, desk.learn, "a", empty, how)
        for one, how, error, fields in [
            (empty, ("squares", 0), NotFull, {"rank": 0}), (CLASSES, ("squares", 0), Unlike, {"what": "kind"}), (LABELS, ("squares", -1), BadNumber, {"what": "pull", "number": -1}),
            (LABELS, ("tree", 5, 1), BadNumber, {"what": "depth", "number": 5}), (LABELS, ("tree", 4, 0), BadNumber, {"what": "least", "number": 0}),
            (empty, ("tree", 0, 1), NotFull, {"rank": 0}), (table(UNIT[:-1], (0, 10 ** 4000)), ("tree", 0, 1), TooLong, {"digits": 4001}),
        ]:
            self.check_refused(desk, error, fields, desk.learn, "a", one, how)

    def test_set_model(self):
        desk = filled()
        self.assertIsNone(desk.set_model("ramp", "sign"))
        self.assertEqual((desk.model_of("ramp").text, desk.origin_of("ramp")), (SIGN, ("set", "sign")))
        self.assertEqual((desk.model_names, desk.acts), (("ramp", "bent", "sign"), 4))
        # What becomes of the source later changes nothing.
        desk.set_model("sign", "bent")
        self.assertEqual((desk.model_of("ramp").text, desk.model_of("sign").text), (SIGN, BENT))
        desk.set_model("bent", "bent")
        self.assertEqual((desk.model_of("bent").text, desk.origin_of("bent"), desk.acts), (BENT, ("set", "bent"), 6))
        for name in ("none", *NO_NAMES):
            self.check_refused(desk, NoModel, {"name": name}, desk.set_model, name, "other")
            self.check_refused(desk, NoModel, {"name": name}, desk.set_model, "ramp", name)

    def test_drop(self):
        desk = filled()
        desk.add_promise("bent", ("rising", "x"))
        desk.add_promise("bent", ("alike", "bent"))
        self.assertIsNone(desk.drop("bent"))
        self.assertEqual((desk.model_names, desk.acts), (("ramp", "sign"), 6))
        check_raised(self, NoModel, {"name": "bent"}, desk.promises_of, "bent")
        desk.put("bent", RAMP)
        self.assertEqual((desk.model_names, desk.promises_of("bent"), desk.origin_of("bent")), (("ramp", "sign", "bent"), (), ("put",)))
        for name in ("none", *NO_NAMES):
            self.check_refused(desk, NoModel, {"name": name}, desk.drop, name)

    def test_drop_with_promises_of_others(self):
        desk = filled()
        desk.put("other", RAMP)
        desk.add_promise("other", ("within", "bent", 1))
        desk.add_promise("ramp", ("rising", "x"))
        desk.add_promise("ramp", ("within", "bent", Ratio(2)))
        desk.add_promise("ramp", ("within", "bent", Ratio(1, 2)))
        # The first name, and the first of its promises that have it as the other one.
        self.check_refused(desk, Broken, {"promise": ("within", "bent", Ratio(2)), "given": None}, desk.drop, "bent")
        desk.end_promise("ramp", ("within", "bent", 2))
        self.check_refused(desk, Broken, {"promise": ("within", "bent", Ratio(1, 2)), "given": None}, desk.drop, "bent")
        desk.end_promise("ramp", ("within", "bent", Ratio(1, 2)))
        self.check_refused(desk, Broken, {"promise": ("within", "bent", Ratio(1)), "given": None}, desk.drop, "bent")
        desk.drop("other")
        desk.drop("bent")
        self.assertEqual(desk.model_names, ("ramp", "sign"))

    def test_undo_and_redo_to_both_ends(self):
        desk = Desk()
        states = [seen(desk)]
        for act in [
            lambda: desk.put("a", BENT), lambda: desk.derive("b", "a", ("tree",)), lambda: desk.learn("c", LABELS, ("squares", 0)),
            lambda: desk.add_promise("a", ("alike", "b")), lambda: desk.set_model("b", "b"), lambda: desk.add_promise("a", ("within", "c", 5)),
            lambda: desk.end_promise("a", ("alike", "b")), lambda: desk.set_model("b", "c"), lambda: desk.drop("b"), lambda: desk.put("b", SIGN),
            lambda: desk.end_promise("a", ("within", "c", 5)),
        ]:
            self.assertIsNone(act())
            states.append(seen(desk))
            self.assertEqual(desk.acts, len(states) - 1)
        for _ in range(2):
            for state in states[-2::-1]:
                self.assertIsNone(desk.undo())
                self.assertEqual(seen(desk), state)
            check_raised(self, NothingToUndo, {}, desk.undo)
            for state in states[1:]:
                self.assertIsNone(desk.redo())
                self.assertEqual(seen(desk), state)
            check_raised(self, NothingToRedo, {}, desk.redo)

    def test_an_act_behind_an_undo_discards_what_was_taken_back(self):
        desk = filled()
        desk.undo()
        desk.undo()
        desk.put("more", BENT)
        self.assertEqual((desk.model_names, desk.acts), (("ramp", "more"), 2))
        check_raised(self, NothingToRedo, {}, desk.redo)
        desk.undo()
        desk.redo()
        self.assertEqual(desk.model_names, ("ramp", "more"))

    def test_what_raises_and_what_is_no_act_discards_nothing(self):
        desk = filled()
        desk.add_promise("ramp", ("rising", "x"))
        desk.undo()
        desk.undo()
        for call in (lambda: desk.put("ramp", RAMP), lambda: desk.drop("none"), lambda: desk.put("b", "wrong"), lambda: desk.derive("b", "ramp", None),
                     lambda: desk.add_promise("ramp", ("rising", "z")), lambda: desk.end_promise("ramp", ("rising", "x"))):
            self.assertRaises(HingeError, call)
        desk.redo()
        desk.redo()
        self.assertEqual((desk.acts, desk.promises_of("ramp")), (4, (("rising", "x"),)))
        desk.set_model("bent", "bent")
        desk.undo()
        desk.add_promise("ramp", ("rising", "x"))
        self.assertEqual(desk.acts, 4)
        desk.redo()
        self.assertEqual(desk.origin_of("bent"), ("set", "bent"))

    def test_histories(self):
        rng = random.Random(641)
        for _ in range(12):
            desk = Desk()
            done, undone = [seen(desk)], []
            for turn in range(40):
                before = seen(desk)
                kind = rng.choice(["act", "act", "act", "undo", "redo", "tried"])
                try:
                    if kind == "undo":
                        desk.undo()
                        undone.append(done.pop())
                    elif kind == "redo":
                        desk.redo()
                        done.append(undone.pop())
                    elif kind == "tried":
                        desk.tried(lambda: [self.random_act(rng, desk) for _ in range(3)])
                    else:
                        self.random_act(rng, desk)
                        if seen(desk) != before:
                            done.append(seen(desk))
                            undone = []
                except HingeError:
                    self.assertEqual(seen(desk), before)
                self.assertEqual(seen(desk), done[-1])
                self.assertEqual(desk.acts, len(done) - 1)

    def random_act(self, rng, desk):
        name, other = rng.choice("abcd"), rng.choice("abcd")
        promise = rng.choice([("rising", "x"), ("blind", "x"), ("alike", other), ("within", other, rng.choice([0, 1, Ratio(1)]))])
        action = rng.choice([
            lambda: desk.put(name, rng.choice([RAMP, BENT, SIGN])), lambda: desk.derive(name, other, rng.choice([("slimmed",), ("tree",), ("net",), ("rounded", 2)])),
            lambda: desk.learn(name, rng.choice([LABELS, CLASSES]), rng.choice([("squares", 0), ("tree", 1, 1)])), lambda: desk.set_model(name, other),
            lambda: desk.drop(name), lambda: desk.add_promise(name, promise), lambda: desk.add_promise(name, promise), lambda: desk.end_promise(name, promise),
        ])
        action()

    def test_tried(self):
        desk = filled()
        desk.undo()
        before = seen(desk)

        def change():
            desk.put("a", BENT)
            desk.derive("b", "a", ("slimmed",))
            desk.drop("ramp")
            return seen(desk)

        for _ in range(2):
            inside = desk.tried(change)
            self.assertEqual((inside[0], inside[1]), (("bent", "a", "b"), 5))
            self.assertEqual(seen(desk), before)
        # What was taken back is still there.
        desk.redo()
        self.assertEqual(desk.model_names, ("ramp", "bent", "sign"))
        self.assertIsNone(desk.tried(lambda: None))
        value = object()
        self.assertIs(desk.tried(lambda: value), value)

    def test_tried_with_errors(self):
        desk = filled()
        desk.add_promise("bent", ("rising", "x"))
        before = seen(desk)
        for error in (ValueError("no"), KeyError("key"), BadName("n"), ZeroDivisionError(), KeyboardInterrupt()):
            def fail():
                desk.drop("ramp")
                desk.undo()
                desk.undo()
                raise error

            with self.assertRaises(type(error)) as caught:
                desk.tried(fail)
            self.assertIs(caught.exception, error)
            self.assertEqual(seen(desk), before)
        check_raised(self, TakenName, {"name": "ramp"}, desk.tried, lambda: desk.put("ramp", RAMP))
        check_raised(self, NothingToRedo, {}, desk.tried, desk.redo)
        self.assertEqual(seen(desk), before)

    def test_tried_nested_and_with_undo_and_redo_within(self):
        desk = filled()
        states = [seen(desk)]

        def inner():
            desk.undo()
            desk.undo()
            desk.put("inner", BENT)
            states.append(seen(desk))
            return desk.model_names

        def outer():
            desk.undo()
            states.append(seen(desk))
            found = desk.tried(inner)
            self.assertEqual(seen(desk), states[1])
            desk.redo()
            self.assertEqual(seen(desk), states[0])
            with self.assertRaises(NothingToRedo):
                desk.redo()
            return found

        self.assertEqual(desk.tried(outer), ("inner",))
        self.assertEqual(seen(desk), states[0])
        check_raised(self, NothingToRedo, {}, desk.redo)
        desk.undo()
        desk.undo()
        desk.undo()
        check_raised(self, NothingToUndo, {}, desk.undo)
        self.assertEqual(desk.tried(lambda: [desk.redo(), desk.redo(), desk.acts][-1]), 2)
        self.assertEqual(desk.acts, 0)

    def test_two_desks_beside_each_other(self):
        one, other = Desk(), Desk()
        one.put("a", RAMP)
        self.assertEqual((one.model_names, other.model_names, other.acts), (("a",), (), 0))
        other.put("a", BENT)
        other.put("b", BENT)
        one.tried(lambda: [one.undo(), other.undo()])
        self.assertEqual((one.acts, other.acts, one.model_of("a").text, other.model_of("a").text), (1, 1, RAMP, BENT))

    def test_what_is_returned_is_new(self):
        desk = filled()
        names = desk.model_names
        desk.put("more", BENT)
        self.assertEqual(names, ("ramp", "bent", "sign"))
        self.assertIs(type(desk.promises_of("more")), tuple)
        self.assertIs(type(desk.origin_of("more")), tuple)


if __name__ == "__main__":
    unittest.main()
