import importlib
import inspect
import unittest

FUNCTIONS = {
    "ratios": ["ratio_of"],
    "planes": ["number_plane", "letter_plane"],
    "empties": ["point_of", "empty_weights", "inner_of", "flat_weights"],
    "extremes": ["greatest", "least"],
    "needless": ["needed_rows", "beyond_point"],
    "corners": ["corners"],
    "working": ["worked"],
    "slopes": ["rule_slopes", "way_slope"],
    "asking": ["asked"],
    "unfolding": ["unfolded"],
    "rims": ["rims"],
    "areas": ["areas", "shares"],
    "alike": ["apart", "alike_papers"],
    "bounds": ["greatest_value", "least_value", "loss", "above"],
    "classes": ["classes_met", "classes_together"],
    "blind": ["blind_pair", "depends_on"],
    "continuous": ["jump_of"],
    "rising": ["falling_pair", "steepest"],
    "exchanged": ["exchanged"],
    "heaps": ["over_point", "cover", "least_heap", "heap_apart"],
    "bends": ["unranged", "creases"],
    "pairs": ["least_pair", "highest_of", "pair_apart", "pair_of"],
    "onelayer": ["one_layer", "layer_model"],
    "reasons": ["at_least", "reasons", "enough_papers", "turned"],
    "turnings": ["nearest", "distance_of"],
    "settling": ["settled", "twins"],
    "slimming": ["slimmed", "thinned"],
    "treeing": ["tree_of"],
    "netting": ["net_of"],
    "rounding": ["rounded", "first_grid"],
    "squares": ["least_squares", "square_sum"],
    "perceptrons": ["run_perceptron", "fence_model"],
    "fences": ["fence", "laid_out", "widest_fence"],
    "orders": ["most_errors"],
    "growing": ["grown"],
    "training": ["trained"],
    "labels": ["label_shares", "extent", "fewest_labels", "fewest_classes"],
    "lots": ["verdict_of", "lots", "least_lot"],
}
METHODS = {
    ("ratios", "Ratio"): ["__init__", "__add__", "__sub__", "__mul__", "__neg__", "__eq__", "over", "compared",
                          "under", "at_most", "written"],
    ("planes", "Plane"): ["__init__", "__add__", "__sub__", "__mul__", "__neg__", "__eq__", "at", "put_in"],
    ("places", "Place"): ["__init__", "__eq__", "holds", "closed_holds", "with_rows"],
    ("extremes", "Extreme"): ["__init__"],
    ("features", "Features"): ["__init__", "__eq__", "low", "high", "unit", "fits", "place_rows", "all_settings"],
    ("models", "Model"): ["__init__", "__eq__", "kind_of", "classes_of", "walked", "all_walked"],
    ("working", "Worked"): ["__init__"],
    ("slopes", "Jump"): ["__init__"],
    ("asking", "Asked"): ["__init__"],
    ("unfolding", "Leaf"): ["__init__"],
    ("unfolding", "Unfolded"): ["__init__"],
    ("rims", "Rim"): ["__init__"],
    ("areas", "Area"): ["__init__"],
    ("alike", "Apart"): ["__init__"],
    ("bounds", "Worth"): ["__init__"],
    ("rising", "Steep"): ["__init__"],
    ("heaps", "Heap"): ["__init__", "__add__", "__mul__", "at", "at_top", "joined"],
    ("heaps", "LeastHeap"): ["__init__"],
    ("bends", "Crease"): ["__init__"],
    ("pairs", "Pair"): ["__init__", "__add__", "__sub__", "__neg__", "__mul__", "at"],
    ("onelayer", "Layer"): ["__init__", "at"],
    ("onelayer", "Stop"): ["__init__"],
    ("reasons", "Reasons"): ["__init__"],
    ("turnings", "Nearest"): ["__init__"],
    ("slimming", "Thinned"): ["__init__"],
    ("rounding", "GridChoice"): ["__init__"],
    ("tables", "Table"): ["__init__", "__eq__", "put_in", "taken_out", "neighbours"],
    ("perceptrons", "Steps"): ["__init__"],
    ("fences", "Fence"): ["__init__"],
    ("fences", "Ring"): ["__init__"],
    ("fences", "Widest"): ["__init__"],
    ("orders", "Most"): ["__init__"],
    ("orders", "Endless"): ["__init__"],
    ("labels", "Extent"): ["__init__"],
    ("labels", "Turning"): ["__init__"],
    ("lots", "Lots"): ["__init__"],
    ("desks", "Desk"): ["__init__", "model_names", "acts", "model_of", "origin_of", "promises_of", "put", "derive", "learn", "set_model", "drop",
                        "add_promise", "end_promise", "undo", "redo", "tried"],
}
PARAMETERS = {
    ("rims", "rims"): 1, ("areas", "areas"): 1, ("areas", "shares"): 1, ("alike", "apart"): 2,
    ("alike", "alike_papers"): 2, ("bounds", "greatest_value"): 1, ("bounds", "least_value"): 1, ("bounds", "loss"): 2,
    ("bounds", "above"): 3, ("classes", "classes_met"): 1, ("classes", "classes_together"): 2, ("blind", "blind_pair"): 2,
    ("blind", "depends_on"): 1, ("continuous", "jump_of"): 1, ("rising", "falling_pair"): 2, ("rising", "steepest"): 2,
    ("exchanged", "exchanged"): 3, ("heaps", "Heap"): 1, ("heaps", "over_point"): 2, ("heaps", "cover"): 2,
    ("heaps", "least_heap"): 1, ("heaps", "heap_apart"): 2, ("bends", "unranged"): 1, ("bends", "creases"): 1,
    ("pairs", "Pair"): 2, ("pairs", "least_pair"): 1, ("pairs", "highest_of"): 1, ("pairs", "pair_apart"): 2,
    ("pairs", "pair_of"): 1, ("onelayer", "one_layer"): 1, ("onelayer", "Layer"): 2, ("onelayer", "layer_model"): 2,
    ("reasons", "at_least"): 2, ("reasons", "reasons"): 2, ("reasons", "enough_papers"): 3, ("reasons", "turned"): 3,
    ("turnings", "nearest"): 3, ("turnings", "distance_of"): 4, ("settling", "settled"): 1, ("settling", "twins"): 1,
    ("slimming", "slimmed"): 1, ("slimming", "thinned"): 2, ("treeing", "tree_of"): 1, ("netting", "net_of"): 1, ("rounding", "rounded"): 2,
    ("rounding", "first_grid"): 2, ("tables", "Table"): 2, ("squares", "square_sum"): 2, ("perceptrons", "fence_model"): 2, ("fences", "fence"): 1,
    ("fences", "laid_out"): 2, ("fences", "widest_fence"): 1, ("fences", "Fence"): 1, ("fences", "Ring"): 1, ("fences", "Widest"): 3,
    ("orders", "most_errors"): 1, ("orders", "Most"): 3, ("orders", "Endless"): 1, ("growing", "grown"): 3, ("training", "trained"): 5,
    ("labels", "fewest_classes"): 3, ("labels", "Extent"): 4, ("labels", "Turning"): 2, ("lots", "verdict_of"): 3, ("lots", "lots"): 4,
    ("lots", "least_lot"): 3, ("lots", "Lots"): 2, ("perceptrons", "Steps"): 2, ("desks", "Desk"): 0,
}
# Functions whose last parameter may be left out: how many there are, and what it is then.
OPTIONAL = {
    ("ratios", "Ratio"): (2, 1), ("squares", "least_squares"): (2, 0), ("perceptrons", "run_perceptron"): (3, None), ("labels", "label_shares"): (3, 0),
    ("labels", "extent"): (5, 0), ("labels", "fewest_labels"): (6, 0),
}


class InterfaceTest(unittest.TestCase):
    def found(self, module, name):
        return getattr(importlib.import_module(f"hingeworks.{module}"), name)

    def test_functions_are_defined_in_their_files(self):
        for module, names in FUNCTIONS.items():
            for name in names:
                function = self.found(module, name)
                self.assertTrue(inspect.isfunction(function), name)
                self.assertEqual(function.__module__, f"hingeworks.{module}")

    def test_classes_are_defined_in_their_files_with_their_own_methods(self):
        for (module, name), methods in METHODS.items():
            made = self.found(module, name)
            self.assertTrue(inspect.isclass(made), name)
            self.assertEqual(made.__module__, f"hingeworks.{module}")
            for method in methods:
                self.assertIn(method, vars(made), (name, method))

    def test_parameters_by_position(self):
        for (module, name), many in PARAMETERS.items():
            told = inspect.signature(self.found(module, name)).parameters.values()
            self.assertEqual([one.kind for one in told], [inspect.Parameter.POSITIONAL_OR_KEYWORD] * many, name)
            self.assertTrue(all(one.default is inspect.Parameter.empty for one in told), name)

    def test_parameters_that_may_be_left_out(self):
        for (module, name), (many, last) in OPTIONAL.items():
            told = list(inspect.signature(self.found(module, name)).parameters.values())
            self.assertEqual([one.kind for one in told], [inspect.Parameter.POSITIONAL_OR_KEYWORD] * many, name)
            self.assertTrue(all(one.default is inspect.Parameter.empty for one in told[:-1]), name)
            self.assertEqual(told[-1].default, last)

    def test_the_attributes_of_a_desk_are_properties(self):
        desk = self.found("desks", "Desk")
        self.assertTrue(all(isinstance(vars(desk)[name], property) for name in ("model_names", "acts")))

    def test_errors_are_defined_in_their_file(self):
        errors = importlib.import_module("hingeworks.errors")
        for name in ("HingeError", "BadText", "EmptyPlace", "NothingToRedo"):
            self.assertEqual(getattr(errors, name).__module__, "hingeworks.errors")


if __name__ == "__main__":
    unittest.main()
