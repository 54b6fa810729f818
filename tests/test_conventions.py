"""What holds for the calls about models in general: nothing is changed, and what is asked again is answered alike."""

import unittest

from checking import check_raised, numbers, ratio
from hingeworks.asking import asked
from hingeworks.corners import corners
from hingeworks.errors import BadAnswers, BadGiven, BadText, NoFeature, NoLine
from hingeworks.features import Features
from hingeworks.models import Model
from hingeworks.places import Place
from hingeworks.planes import Plane, letter_plane, number_plane
from hingeworks.ratios import Ratio
from hingeworks.slopes import rule_slopes, way_slope
from hingeworks.unfolding import unfolded
from hingeworks.working import worked

TEXT = ("fraction x from -1 to 1\nyesno u\nfraction y\nhinge a 0 x 1 u 1\nsign s no yes 0 y 1 a -1\n"
        "near n 1 x 1 y 1\nrow no 0 0\nrow yes 1 1\nclip f 0 1 0 y 1 a 1")


def seen(model):
    """All that a model shows of itself."""
    features = model.features
    told = [(features.low(name), features.high(name), features.unit(name)) for name in features.names]
    return (model.text, model.names, model.tells, model.classes, model.switches, features.text, features.names,
            features.fractions, features.yesnos, features.place_rows(), features.all_settings(), told,
            [(model.kind_of(name), model.classes_of(name)) for name in model.names])


def shown_answers(model):
    """What the calls about a model return, made comparable."""
    given = (ratio("1/2"), 1, 2)
    done = worked(model, given)
    found = unfolded(model, model)
    leaves = [(leaf.settings, leaf.answers, leaf.place, leaf.told, leaf.point, leaf.is_full) for leaf in found.leaves]
    letters = (letter_plane(0, 2), number_plane(1, 2), letter_plane(1, 2))
    return (done.told, done.answers, done.results, rule_slopes(model, given), way_slope(model, given, (1, -1)),
            numbers(asked(model, (0,), [1, 0]).plane), leaves, found.left_out, model.walked(letters, lambda _: 1),
            model.all_walked(letters, lambda _: 0))


class ConventionsTest(unittest.TestCase):
    def test_what_is_asked_again_is_answered_alike(self):
        model, other = Model(TEXT), Model(TEXT)
        before = seen(model)
        first = shown_answers(model)
        self.assertEqual(first, shown_answers(model))
        self.assertEqual(first, shown_answers(other))
        self.assertEqual(seen(model), before)

    def test_what_is_returned_may_be_changed(self):
        model = Model(TEXT)
        first = shown_answers(model)
        letters = (letter_plane(0, 2), number_plane(1, 2), letter_plane(1, 2))
        for changed in (worked(model, (0, 0, 0)).results, model.all_walked(letters, lambda _: 0)):
            changed.clear()
            changed["a"] = 7
        self.assertEqual(shown_answers(model), first)

    def test_a_call_that_raises_changes_nothing(self):
        model = Model(TEXT)
        before, first = seen(model), shown_answers(model)
        for call, kept, error, fields in [
            (lambda kept: worked(model, kept), [0, 0, 0], BadGiven, {"what": "given"}),
            (lambda kept: rule_slopes(model, kept), [0, 0, 0], BadGiven, {"what": "given"}),
            (lambda kept: way_slope(model, (0, 0, 0), kept), [1, 1], BadGiven, {"what": "way"}),
            (lambda kept: asked(model, kept, []), [0], BadGiven, {"what": "settings"}),
            (lambda kept: asked(model, (0,), kept), [0, 1, 2, 0], BadAnswers, {"place": 2}),
            (lambda kept: asked(model, (0,), kept), [1] * 10, BadAnswers, {"place": 5}),
            (model.kind_of, ["a"], NoLine, {"name": ["a"]}),
            (model.classes_of, ["s"], NoLine, {"name": ["s"]}),
            (model.features.low, ["x"], NoFeature, {"name": ["x"]}),
            (Model, ["fraction x"], BadText, {"line": 1, "column": 1}),
            (Features, ["fraction x"], BadText, {"line": 1, "column": 1}),
        ]:
            copy = list(kept)
            check_raised(self, error, fields, call, kept)
            self.assertEqual(kept, copy)
        self.assertEqual(seen(model), before)
        self.assertEqual(shown_answers(model), first)

    def test_errors_keep_the_very_value(self):
        model = Model(TEXT)
        for value in (["x"], {}, 1.5, object()):
            for call, error in ((model.kind_of, NoLine), (model.features.unit, NoFeature)):
                with self.assertRaises(error) as caught:
                    call(value)
                self.assertIs(caught.exception.name, value)

    def test_integers_stand_for_ratios(self):
        model = Model(TEXT)
        one, other = worked(model, (1, 0, -2)), worked(model, (Ratio(1), Ratio(0), Ratio(-2)))
        self.assertEqual((one.told, one.answers, one.results), (other.told, other.answers, other.results))
        self.assertEqual(way_slope(model, (1, 0, 3), (-1, 2)),
                         way_slope(model, (Ratio(1), 0, Ratio(3)), (Ratio(-1), 2)))

    def test_lists_stand_for_tuples_where_a_list_is_described(self):
        rows = [(Plane(0, [1]), False), (Plane(1, (-1,)), True)]
        self.assertEqual(corners(Place(rows, 1)), corners(Place(tuple(rows), 1)))
        self.assertEqual(asked(Model(TEXT), (0,), [1, 1]).plane, asked(Model(TEXT), (0,), (1, 1)).plane)

    def test_objects_are_equal_only_to_objects_of_their_own_class(self):
        one = Model("fraction x\nsum f 0")
        for value in (one.features, one.text, "fraction x", None, 0, True, (), Plane(0, []), Ratio(0), object()):
            for own in (one, one.features):
                if own is not value:
                    self.assertIs(own == value, False)
                    self.assertIs(own != value, True)


if __name__ == "__main__":
    unittest.main()
