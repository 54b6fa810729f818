"""What holds for all questions: nothing is changed, what is asked again is answered alike, and results are plain."""

import unittest

from checking import check_raised, numbers, plane, ratio
from hingeworks.alike import alike_papers, apart
from hingeworks.areas import areas, shares
from hingeworks.bends import creases, unranged
from hingeworks.blind import blind_pair, depends_on
from hingeworks.bounds import above, greatest_value, least_value, loss
from hingeworks.classes import classes_met, classes_together
from hingeworks.continuous import jump_of
from hingeworks.errors import BadGiven, BadName, BadNumber, HingeError, NoFeature, TooLarge, Unlike
from hingeworks.exchanged import exchanged
from hingeworks.features import Features
from hingeworks.heaps import Heap, cover, heap_apart, least_heap, over_point
from hingeworks.models import Model
from hingeworks.onelayer import Layer, layer_model, one_layer
from hingeworks.pairs import Pair, highest_of, least_pair, pair_apart, pair_of
from hingeworks.places import Place
from hingeworks.planes import Plane
from hingeworks.ratios import Ratio
from hingeworks.reasons import at_least, enough_papers, reasons, turned
from hingeworks.rims import rims
from hingeworks.rising import falling_pair, steepest
from hingeworks.turnings import distance_of, nearest
from hingeworks.unfolding import unfolded

MIXED = "fraction x from 0 to 1 by 2\nyesno u\nfraction y from 0 to 1 by 2\n"
NUMBER = Model(MIXED + "hinge a -1/2 x 1 u 1\nleaky b -1 -1/3 y 1\nsum f 0 u 1 a 1 b 1/2")
OTHER = Model(MIXED + "clip c 0 1 0 x 2 y -1\nsum f 0 y 1 c 2")
CLASS = Model(MIXED + "sign s no yes -3/4 x 1 u 1/4 y 1/2")
BESIDE = Model(MIXED + "rules r\nif yes -1/2 y 1\nelse no")
WHOLE = Model("fraction x\nfraction y\nhinge a 0 x 1 y -1\nhinge b 1 y 1\nsum f 0 a 1 b -2")
JUMPING = Model(MIXED + "tree t\nask -1/2 x 1\ntell 0\ntell 1 y 1")
HEAP = Heap([plane(0, 1, 0), plane(0, 0, 1), plane(0, 0, 0), plane(-1, 0, 0)])
MORE = Heap([plane(0, 1, 1), plane(1, 0, 0)])
PAIR = Pair(HEAP, MORE)
LAYER = Layer(plane(1, 2, 3), [((-1, 1, 0), 2), ((0, 1, -1), ratio("1/2"))])
GIVEN = (ratio("1/4"), 0, 1)

CALLS = [
    lambda: rims(unfolded(NUMBER, OTHER)), lambda: areas(NUMBER), lambda: shares(CLASS), lambda: apart(NUMBER, OTHER),
    lambda: apart(CLASS, BESIDE), lambda: alike_papers(NUMBER, NUMBER), lambda: greatest_value(NUMBER),
    lambda: least_value(NUMBER), lambda: loss(NUMBER, OTHER), lambda: above(NUMBER, OTHER, ratio("1/3")),
    lambda: classes_met(CLASS), lambda: classes_together(CLASS, BESIDE), lambda: blind_pair(NUMBER, "x"),
    lambda: blind_pair(CLASS, "u"), lambda: depends_on(OTHER), lambda: jump_of(JUMPING), lambda: jump_of(NUMBER),
    lambda: falling_pair(NUMBER, "y"), lambda: falling_pair(JUMPING, "u"), lambda: steepest(NUMBER, "greatest"),
    lambda: steepest(NUMBER, "sum"), lambda: exchanged(NUMBER, "x", "y"), lambda: unranged(NUMBER), lambda: creases(WHOLE),
    lambda: HEAP + MORE, lambda: HEAP * 3, lambda: HEAP.joined(MORE), lambda: HEAP.at_top((0, 0)),
    lambda: over_point(plane(0, 2, 0), HEAP), lambda: cover(plane(-2, 1, 0), HEAP), lambda: least_heap(HEAP),
    lambda: heap_apart(HEAP, MORE), lambda: PAIR + PAIR, lambda: PAIR - PAIR, lambda: -PAIR, lambda: PAIR * -2,
    lambda: PAIR.at((1, 2)), lambda: least_pair(PAIR), lambda: highest_of([PAIR, -PAIR]), lambda: pair_apart(PAIR, -PAIR),
    lambda: pair_of(WHOLE), lambda: one_layer(WHOLE), lambda: LAYER.at([1, 2]),
    lambda: layer_model(LAYER, WHOLE.features), lambda: at_least(NUMBER, ratio("1/3")), lambda: reasons(CLASS, GIVEN),
    lambda: enough_papers(CLASS, GIVEN, ["x", "u", "y"]), lambda: turned(CLASS, GIVEN, ["x", "u", "y"]),
    lambda: nearest(CLASS, GIVEN, "greatest"), lambda: nearest(CLASS, GIVEN, "sum"),
    lambda: distance_of(CLASS.features, GIVEN, (1, 1, 1), "sum"),
]
PLAIN = (int, str, bool, type(None))


def shown(value):
    """All that a result shows of itself, made comparable."""
    if isinstance(value, PLAIN):
        return value
    if isinstance(value, (tuple, list)):
        return type(value).__name__, [shown(item) for item in value]
    if isinstance(value, dict):
        return "dict", [(key, shown(item)) for key, item in value.items()]
    if isinstance(value, Ratio):
        return "Ratio", value.top, value.bottom
    if isinstance(value, Plane):
        return "Plane", numbers(value)
    if isinstance(value, (Model, Features)):
        return type(value).__name__, value.text
    if isinstance(value, Place):
        return "Place", value.size, shown(value.rows)
    return type(value).__name__, [(name, shown(item)) for name, item in sorted(vars(value).items())]


KEPT = [NUMBER, OTHER, CLASS, BESIDE, WHOLE, JUMPING, HEAP, MORE, PAIR, LAYER]


def kept():
    return [shown(value) for value in KEPT]


class QuestionConventionsTest(unittest.TestCase):
    def test_what_is_asked_again_is_answered_alike(self):
        before = kept()
        first = [shown(call()) for call in CALLS]
        self.assertEqual([shown(call()) for call in reversed(CALLS)], first[::-1])
        self.assertEqual([shown(call()) for call in CALLS], first)
        self.assertEqual(kept(), before)

    def test_several_items_are_tuples(self):
        for call in CALLS:
            self.check_tuples(call())

    def check_tuples(self, value):
        self.assertNotIsInstance(value, (list, set))
        if isinstance(value, (tuple, dict)):
            for item in value.values() if isinstance(value, dict) else value:
                self.check_tuples(item)
        elif not isinstance(value, (*PLAIN, Ratio, Plane, Place, Model)):
            for item in vars(value).values():
                self.check_tuples(item)

    def test_dicts_that_are_returned_are_new(self):
        found = shares(CLASS)
        first = shown(found)
        found.clear()
        found["other"] = 7
        self.assertEqual(shown(shares(CLASS)), first)

    def test_calls_leave_their_arguments_as_they_were(self):
        for call, items in [
            (lambda items: enough_papers(CLASS, GIVEN, items), ["y", "u"]),
            (lambda items: turned(CLASS, GIVEN, items), ["y", "x"]),
            (Heap, [plane(0, 1), plane(1, 2)]), (highest_of, [PAIR, -PAIR, PAIR]), (HEAP.at, [1, 2]), (LAYER.at, [1, 2]),
            (lambda items: Layer(plane(1, 2, 3), items), [((0, 1, 0), 1)]), (PAIR.at, [3, 4]),
        ]:
            before = list(items)
            call(items)
            self.assertEqual(len(items), len(before))
            self.assertTrue(all(here is there for here, there in zip(items, before)))

    def test_a_call_that_raises_changes_nothing(self):
        before, first = kept(), [shown(call()) for call in CALLS]
        names, planes = ["x", "zz", "x"], [plane(0, 1), plane(0, 1, 2)]
        for error, fields, call in [
            (Unlike, {"what": "kind"}, lambda: apart(NUMBER, CLASS)),
            (Unlike, {"what": "features"}, lambda: loss(NUMBER, WHOLE)),
            (Unlike, {"what": "kind"}, lambda: shares(NUMBER)),
            (BadNumber, {"what": "fractions", "number": 1}, lambda: areas(Model("fraction x\nsum f 0"))),
            (NoFeature, {"name": "f"}, lambda: blind_pair(NUMBER, "f")),
            (NoFeature, {"name": None}, lambda: falling_pair(NUMBER, None)),
            (TooLarge, {"what": "switches", "many": 80, "limit": 40},
             lambda: depends_on(Model("fraction x\nhighest h " + " , ".join(["0"] * 41)))),
            (NoFeature, {"name": "zz"}, lambda: enough_papers(CLASS, GIVEN, names)),
            (BadName, {"name": "x"}, lambda: turned(CLASS, GIVEN, names[::2])),
            (BadGiven, {"what": "given"}, lambda: nearest(CLASS, [0, 0, 0], "sum")),
            (BadNumber, {"what": "size", "number": 2}, lambda: Heap(planes)),
            (BadNumber, {"what": "ratio", "number": -1}, lambda: HEAP * -1),
            (BadGiven, {"what": "point"}, lambda: LAYER.at([1])),
        ]:
            check_raised(self, error, fields, call)
        self.assertEqual(names, ["x", "zz", "x"])
        self.assertEqual(len(planes), 2)
        self.assertEqual(kept(), before)
        self.assertEqual([shown(call()) for call in CALLS], first)

    def test_errors_keep_the_very_value(self):
        for value in (["x"], {}, 1.5, object()):
            for call in (lambda: blind_pair(NUMBER, value), lambda: falling_pair(NUMBER, value),
                         lambda: exchanged(NUMBER, value, "x"), lambda: exchanged(NUMBER, "x", value),
                         lambda: turned(CLASS, GIVEN, ["x", value])):
                with self.assertRaises(NoFeature) as caught:
                    call()
                self.assertIs(caught.exception.name, value)
            with self.assertRaises(BadNumber) as caught:
                at_least(NUMBER, value)
            self.assertIs(caught.exception.number, value)

    def test_errors_are_those_of_the_package(self):
        for call in (lambda: shares(NUMBER), lambda: creases(NUMBER), lambda: one_layer(JUMPING)):
            self.assertRaises(HingeError, call)


if __name__ == "__main__":
    unittest.main()
