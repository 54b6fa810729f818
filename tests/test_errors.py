import unittest

from hingeworks import errors
from hingeworks.errors import HingeError

FIELDS = {
    "BadText": ("line", "column"),
    "BadName": ("name",),
    "BadNumber": ("what", "number"),
    "BadGiven": ("what",),
    "BadAnswers": ("place",),
    "BadPlace": ("row",),
    "BadTable": ("row",),
    "TooLong": ("digits",),
    "TooLarge": ("what", "many", "limit"),
    "TooMany": ("what", "many", "limit"),
    "Unlike": ("what",),
    "NotContinuous": (),
    "NotPlain": ("name",),
    "EmptyPlace": (),
    "NotFull": ("rank",),
    "NoFeature": ("name",),
    "NoLine": ("name",),
    "NoModel": ("name",),
    "TakenName": ("name",),
    "Broken": ("promise", "given"),
    "NothingToUndo": (),
    "NothingToRedo": (),
}


class ErrorsTest(unittest.TestCase):
    def made(self, name):
        """An error of this name, with fields that are equal to nothing else, and these fields."""
        values = [object() for _ in FIELDS[name]]
        return getattr(errors, name)(*values), values

    def test_hinge_error_is_a_value_error(self):
        self.assertEqual(HingeError.__bases__, (ValueError,))

    def test_each_derives_from_hinge_error_and_from_nothing_else(self):
        for name in FIELDS:
            self.assertEqual(getattr(errors, name).__bases__, (HingeError,), name)
            self.assertEqual(getattr(errors, name).__name__, name)

    def test_each_is_of_no_other_class(self):
        for name in FIELDS:
            error, _ = self.made(name)
            self.assertIsInstance(error, HingeError)
            self.assertIsInstance(error, ValueError)
            for other in FIELDS:
                self.assertEqual(isinstance(error, getattr(errors, other)), name == other, (name, other))

    def test_fields_are_kept_in_their_order_under_their_names(self):
        for name, fields in FIELDS.items():
            error, values = self.made(name)
            for field, value in zip(fields, values):
                self.assertIs(getattr(error, field), value, (name, field))

    def test_fields_of_any_kind_are_kept_as_they_are_given(self):
        for value in [None, True, 0, "", "x", 1.5, (1, 2), [1, [2]], {"a": 1}, 10 ** 5000]:
            for name, fields in FIELDS.items():
                error = getattr(errors, name)(*[value for _ in fields])
                for field in fields:
                    self.assertIs(getattr(error, field), value, (name, field))

    def test_each_is_caught_by_its_own_class(self):
        for name, fields in FIELDS.items():
            error, values = self.made(name)
            with self.assertRaises(getattr(errors, name)) as caught:
                raise error
            for field, value in zip(fields, values):
                self.assertIs(getattr(caught.exception, field), value)

    def test_each_is_caught_by_hinge_error_and_by_value_error(self):
        for name in FIELDS:
            for wide in (HingeError, ValueError):
                error, _ = self.made(name)
                with self.assertRaises(wide) as caught:
                    raise error
                self.assertIs(caught.exception, error)


if __name__ == "__main__":
    unittest.main()
