"""What holds for all that makes and learns models: nothing is changed, what is asked again is answered alike, and so on."""

import unittest

from checking import check_raised, ratio
from hingeworks.alike import alike_papers, apart
from hingeworks.bounds import loss
from hingeworks.classes import classes_met
from hingeworks.desks import Desk
from hingeworks.errors import BadGiven, BadNumber, BadTable, NotFull, NotPlain, TooLarge, TooMany, Unlike
from hingeworks.fences import fence, laid_out, widest_fence
from hingeworks.growing import grown
from hingeworks.labels import extent, fewest_classes, fewest_labels, label_shares
from hingeworks.lots import least_lot, lots, verdict_of
from hingeworks.models import Model
from hingeworks.netting import net_of
from hingeworks.orders import most_errors
from hingeworks.perceptrons import fence_model, run_perceptron
from hingeworks.ratios import Ratio
from hingeworks.reasons import reasons
from hingeworks.rounding import first_grid, rounded
from hingeworks.settling import settled, twins
from hingeworks.slimming import slimmed, thinned
from hingeworks.squares import least_squares, square_sum
from hingeworks.tables import Table
from hingeworks.training import trained
from hingeworks.treeing import tree_of
from hingeworks.turnings import nearest
from hingeworks.working import worked
from learning import rows_of, table
from test_question_conventions import PLAIN, Plane, Place, shown

MIXED = "fraction x from 0 to 4 by 2\nyesno u\nfraction y from 0 to 4"
NUMBER = Model(MIXED + "\nhinge a -1 x 1\nhinge b 1 x -1\nhinge c 5 y 1\nclip d 0 1 0 u 1\nsum f 0 a 1 b 2 c 1 d 1")
CLASS = Model(MIXED + "\nrules r\nif yes -1/3 x 1 , 0 u 1\nif no -9 y 1\nelse no")
WHOLE = Model("fraction x\nfraction y\nhinge a 0 x 1\nsum f 0 y 1 a -2")
LABELS = table(MIXED, (0, 0, 0, 1), (1, 0, 2, 3), (2, 1, 0, 2), (3, 1, 4, 5), (4, 0, 1, 1))
CLASSES = table(MIXED, (0, 0, 0, "a"), (1, 0, 2, "b"), (2, 1, 0, "a"), (3, 1, 4, "b"), (4, 0, 1, "a"))
RINGED = table("fraction x", (0, "a"), (1, "b"), (2, "a"))
FENCED = table("fraction x", (0, "a"), (1, "b"))
GIVEN = (Ratio(1, 2), 1, 3)
LOWS, HIGHS = (0, 0, 0, 0, 0), (9, 9, 9, 9, 9)

CALLS = [
    lambda: settled(NUMBER), lambda: twins(NUMBER), lambda: slimmed(NUMBER), lambda: slimmed(CLASS), lambda: thinned(NUMBER, 3), lambda: tree_of(NUMBER),
    lambda: tree_of(CLASS), lambda: net_of(WHOLE), lambda: rounded(CLASS, 2), lambda: first_grid(CLASS, (2, 4, 3)), lambda: first_grid(CLASS, (1, 2)),
    lambda: LABELS.put_in(GIVEN, 7), lambda: LABELS.taken_out((3, 0)), lambda: CLASSES.neighbours(2), lambda: least_squares(LABELS), lambda: least_squares(LABELS, 2),
    lambda: square_sum(NUMBER, LABELS), lambda: run_perceptron(CLASSES, (0, 1, 2, 3, 4) * 5), lambda: run_perceptron(CLASSES, [1], (1, 2, 3, 4)),
    lambda: fence_model(CLASSES, (1, 0, 2, 3)), lambda: fence(FENCED), lambda: fence(RINGED), lambda: laid_out(RINGED, (2, 4, 2)), lambda: widest_fence(FENCED),
    lambda: widest_fence(RINGED), lambda: most_errors(FENCED), lambda: most_errors(RINGED), lambda: grown(LABELS, 3, 1), lambda: grown(CLASSES, 3, 1),
    lambda: trained(NUMBER, LABELS, (1, 2, 1), Ratio(1, 9), 12), lambda: label_shares(LABELS, GIVEN), lambda: extent(LABELS, GIVEN, LOWS, HIGHS, 1),
    lambda: fewest_labels(LABELS, GIVEN, 2, LOWS, HIGHS), lambda: fewest_classes(CLASSES, GIVEN, 3), lambda: verdict_of(LABELS, GIVEN, ("straight", 2, 0)),
    lambda: lots(LABELS, GIVEN, 3, ("straight", 2, 0)), lambda: lots(CLASSES, GIVEN, 3, ("near", 3)), lambda: least_lot(CLASSES, GIVEN, ("near", 1)),
]
KEPT = [NUMBER, CLASS, WHOLE, LABELS, CLASSES, RINGED, FENCED]


def kept():
    return [shown(value) for value in KEPT]


class LearningConventionsTest(unittest.TestCase):
    def test_what_is_asked_again_is_answered_alike(self):
        before = kept()
        first = [shown(call()) for call in CALLS]
        self.assertEqual([shown(call()) for call in reversed(CALLS)], first[::-1])
        self.assertEqual([shown(call()) for call in CALLS], first)
        self.assertEqual(kept(), before)

    def test_several_items_are_tuples(self):
        for call in CALLS:
            self.check_tuples(call())

    def check_tuples(self, value):
        self.assertNotIsInstance(value, (list, set, dict))
        if isinstance(value, tuple):
            for item in value:
                self.check_tuples(item)
        elif not isinstance(value, (*PLAIN, Ratio, Plane, Place, Model)):
            for name, item in vars(value).items():
                if name != "features":
                    self.check_tuples(item)

    def test_calls_leave_their_arguments_as_they_were(self):
        rows = [((0, 0, 0), 1), ((1, 1, 1), Ratio(1, 2))]
        for call, items in [
            (lambda items: Table(LABELS.features, items), rows), (LABELS.taken_out, [4, 0]), (lambda items: run_perceptron(CLASSES, items), [0, 1, 1]),
            (lambda items: run_perceptron(CLASSES, [0], items), [1, 2, 3, 4]), (lambda items: fence_model(CLASSES, items), [1, 2, 3, 4]),
            (lambda items: laid_out(RINGED, items), [1, 2, 1]), (lambda items: trained(NUMBER, LABELS, items, 1, 5), [0, 1, 1]),
            (lambda items: extent(LABELS, GIVEN, items, HIGHS), list(LOWS)), (lambda items: fewest_labels(LABELS, GIVEN, 2, LOWS, items), list(HIGHS)),
            (lambda items: first_grid(CLASS, items), [2, 3, 4]),
        ]:
            before = list(items)
            call(items)
            self.assertEqual(len(items), len(before))
            self.assertTrue(all(here is there for here, there in zip(items, before)))

    def test_a_call_that_raises_changes_nothing(self):
        before, first = kept(), [shown(call()) for call in CALLS]
        rows, numbers, counts = [((0, 0, 0), 1), None], [1, 1], [1, 2, 2]
        for error, fields, call in [
            (Unlike, {"what": "kind"}, lambda: thinned(CLASS, 0)), (BadNumber, {"what": "most", "number": -1}, lambda: thinned(NUMBER, -1)),
            (Unlike, {"what": "kind"}, lambda: net_of(CLASS)), (NotPlain, {"name": "u"}, lambda: net_of(NUMBER)),
            (BadNumber, {"what": "grid", "number": 0}, lambda: rounded(NUMBER, 0)), (Unlike, {"what": "kind"}, lambda: first_grid(NUMBER, (1,))),
            (BadTable, {"row": 1}, lambda: Table(LABELS.features, rows)), (BadNumber, {"what": "row", "number": 1}, lambda: LABELS.taken_out(numbers)),
            (Unlike, {"what": "kind"}, lambda: LABELS.neighbours(1)), (Unlike, {"what": "kind"}, lambda: least_squares(CLASSES)),
            (Unlike, {"what": "classes"}, lambda: fence(LABELS)), (BadNumber, {"what": "counts", "number": counts}, lambda: laid_out(RINGED, counts)),
            (NotFull, {"rank": 0}, lambda: grown(LABELS.taken_out((0, 1, 2, 3, 4)), 0, 1)), (Unlike, {"what": "kind"}, lambda: trained(CLASS, LABELS, [0], 1, 1)),
            (BadGiven, {"what": "given"}, lambda: label_shares(LABELS, [0, 0, 0])), (Unlike, {"what": "learner"}, lambda: least_lot(LABELS, GIVEN, None)),
            (TooLarge, {"what": "neighbours", "many": 3, "limit": 2}, lambda: CLASSES.taken_out((0, 1, 2)).neighbours(3)),
            (TooMany, {"what": "steps", "many": 101, "limit": 100}, lambda: trained(NUMBER, LABELS, [0] * 101, 1, 1)),
        ]:
            check_raised(self, error, fields, call)
        self.assertEqual((rows, numbers, counts), ([((0, 0, 0), 1), None], [1, 1], [1, 2, 2]))
        self.assertEqual(kept(), before)
        self.assertEqual([shown(call()) for call in CALLS], first)

    def test_errors_keep_the_very_value(self):
        for value in (["x"], {}, 1.5, object()):
            for call in (lambda: thinned(NUMBER, value), lambda: rounded(NUMBER, value), lambda: first_grid(CLASS, (3, value)), lambda: LABELS.taken_out([0, value]),
                         lambda: CLASSES.neighbours(value), lambda: least_squares(LABELS, value), lambda: run_perceptron(CLASSES, [value]),
                         lambda: run_perceptron(CLASSES, [], value), lambda: fence_model(CLASSES, value), lambda: laid_out(RINGED, value), lambda: grown(LABELS, value, 1),
                         lambda: grown(LABELS, 1, value), lambda: trained(NUMBER, LABELS, [value], 1, 1), lambda: trained(NUMBER, LABELS, [], 1, value),
                         lambda: fewest_labels(LABELS, GIVEN, value, LOWS, HIGHS), lambda: lots(LABELS, GIVEN, value, ("straight", 0, 0)),
                         lambda: verdict_of(CLASSES, GIVEN, ("near", value))):
                with self.assertRaises(BadNumber) as caught:
                    call()
                self.assertIs(caught.exception.number, value)

    def test_integers_stand_for_ratios(self):
        whole = [Ratio(item) for item in GIVEN[1:]]
        for one, other in [
            (thinned(NUMBER, 3), thinned(NUMBER, Ratio(3))), (least_squares(LABELS, 2), least_squares(LABELS, Ratio(2))),
            (run_perceptron(CLASSES, [1, 2], [1, 2, 3, 4]), run_perceptron(CLASSES, [1, 2], [Ratio(item) for item in (1, 2, 3, 4)])),
            (trained(NUMBER, LABELS, [1], 1, 2), trained(NUMBER, LABELS, [1], Ratio(1), 2)), (label_shares(LABELS, GIVEN), label_shares(LABELS, (GIVEN[0], *whole))),
            (extent(LABELS, GIVEN, LOWS, HIGHS), extent(LABELS, GIVEN, LOWS, tuple(Ratio(item) for item in HIGHS))),
            (lots(LABELS, GIVEN, 2, ("straight", 2, 0)), lots(LABELS, GIVEN, 2, ("straight", Ratio(2), Ratio(0)))),
        ]:
            self.assertEqual(shown(one), shown(other))

    def test_objects_keep_what_they_were_created_from(self):
        desk, texts = Desk(), []
        desk.put("a", NUMBER.text)
        desk.learn("b", LABELS, ("tree", 2, 1))
        for name in desk.model_names:
            texts.append(desk.model_of(name).text)
        rows = [((0, 0, 0), 1), ((1, 1, 1), 2)]
        one = Table(LABELS.features, rows)
        before = rows_of(one)
        rows.clear()
        self.assertEqual(rows_of(one), before)
        self.assertEqual([desk.model_of(name).text for name in desk.model_names], texts)


class WholeProgramTest(unittest.TestCase):
    """From a table to models, and from these to what is decided about them for all inputs."""

    def test_a_learned_tree(self):
        tree = grown(LABELS, 3, 1)
        self.assertEqual(slimmed(tree), tree)
        self.assertIsNone(apart(tree, tree_of(tree)))
        self.assertIsNotNone(alike_papers(tree, tree_of(tree)))
        self.assertEqual(square_sum(tree, LABELS), 0)
        self.assertEqual(loss(tree, rounded(tree, 1)).extreme.value, 0)

    def test_learned_classes(self):
        near, tree = CLASSES.neighbours(1), grown(CLASSES, 4, 1)
        for model in (near, tree):
            self.assertEqual([worked(model, given).told for given, _ in CLASSES.rows], [label for _, label in CLASSES.rows])
            self.assertEqual([told for told, _ in classes_met(model)], list(model.classes))
            self.assertIsNone(apart(model, slimmed(model)))
            self.assertNotEqual(reasons(model, GIVEN).turning, ())
            self.assertIn(nearest(model, GIVEN, "sum").kind, ("reached", "near"))
        found = fence(CLASSES)
        if hasattr(found, "weights"):
            made = fence_model(CLASSES, found.weights)
            self.assertEqual([worked(made, given).told for given, _ in CLASSES.rows], [label for _, label in CLASSES.rows])

    def test_trained_and_thinned(self):
        model = trained(NUMBER, LABELS, [0, 1, 2, 3, 4] * 4, ratio("1/20"), 1000)[-1]
        self.assertEqual((model.features, model.names), (NUMBER.features, NUMBER.names))
        slim = slimmed(model)
        self.assertIsNone(apart(model, slim))
        thin = thinned(model, 2).model
        self.assertTrue(loss(model, thin).extreme.value.at_most(2))


if __name__ == "__main__":
    unittest.main()
