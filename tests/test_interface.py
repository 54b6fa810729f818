import importlib
import inspect
import unittest

FUNCTIONS = {
    "ratios": ["ratio_of"],
    "planes": ["number_plane", "letter_plane"],
    "empties": ["point_of", "empty_weights", "inner_of", "flat_weights"],
    "extremes": ["greatest", "least"],
    "needless": ["needed_rows", "beyond_point"],
    "corners": ["corners"],
    "working": ["worked"],
    "slopes": ["rule_slopes", "way_slope"],
    "asking": ["asked"],
    "unfolding": ["unfolded"],
}
METHODS = {
    ("ratios", "Ratio"): ["__init__", "__add__", "__sub__", "__mul__", "__neg__", "__eq__", "over", "compared",
                          "under", "at_most", "written"],
    ("planes", "Plane"): ["__init__", "__add__", "__sub__", "__mul__", "__neg__", "__eq__", "at", "put_in"],
    ("places", "Place"): ["__init__", "__eq__", "holds", "closed_holds", "with_rows"],
    ("extremes", "Extreme"): ["__init__"],
    ("features", "Features"): ["__init__", "__eq__", "low", "high", "unit", "fits", "place_rows", "all_settings"],
    ("models", "Model"): ["__init__", "__eq__", "kind_of", "classes_of", "walked", "all_walked"],
    ("working", "Worked"): ["__init__"],
    ("slopes", "Jump"): ["__init__"],
    ("asking", "Asked"): ["__init__"],
    ("unfolding", "Leaf"): ["__init__"],
    ("unfolding", "Unfolded"): ["__init__"],
}


class InterfaceTest(unittest.TestCase):
    def found(self, module, name):
        return getattr(importlib.import_module(f"hingeworks.{module}"), name)

    def test_functions_are_defined_in_their_files(self):
        for module, names in FUNCTIONS.items():
            for name in names:
                function = self.found(module, name)
                self.assertTrue(inspect.isfunction(function), name)
                self.assertEqual(function.__module__, f"hingeworks.{module}")

    def test_classes_are_defined_in_their_files_with_their_own_methods(self):
        for (module, name), methods in METHODS.items():
            made = self.found(module, name)
            self.assertTrue(inspect.isclass(made), name)
            self.assertEqual(made.__module__, f"hingeworks.{module}")
            for method in methods:
                self.assertIn(method, vars(made), (name, method))

    def test_errors_are_defined_in_their_file(self):
        errors = importlib.import_module("hingeworks.errors")
        for name in ("HingeError", "BadText", "EmptyPlace", "NothingToRedo"):
            self.assertEqual(getattr(errors, name).__module__, "hingeworks.errors")


if __name__ == "__main__":
    unittest.main()
