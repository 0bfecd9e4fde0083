"""The errors: their classes and their fields."""

import unittest

from merelylate import errors

FIELDS = {
    "BadMill": "part", "BadColumns": "index", "BadTick": None, "BadLetters": None,
    "BadWindow": None, "BadNumber": None, "BadLate": "index", "NotHonest": None,
    "NotAlike": None, "BadStep": None, "TooMany": "most", "BadText": "line",
    "BadWords": None, "BadSplit": None, "BadWeights": None, "BadEager": "index"}


class ErrorsTest(unittest.TestCase):

    def test_base_is_a_value_error(self):
        self.assertEqual(errors.MillError.__bases__, (ValueError,))

    def test_all_derive_straight_from_the_base(self):
        for name in FIELDS:
            with self.subTest(name=name):
                self.assertEqual(getattr(errors, name).__bases__, (errors.MillError,))

    def test_there_are_no_others(self):
        classes = {name for name in vars(errors) if isinstance(vars(errors)[name], type)}
        self.assertEqual(classes, set(FIELDS) | {"MillError"})

    def test_fields_are_set(self):
        for name, field in FIELDS.items():
            with self.subTest(name=name):
                if field is None:
                    self.assertEqual(vars(getattr(errors, name)()), {})
                else:
                    self.assertEqual(vars(getattr(errors, name)(7)), {field: 7})
                    self.assertEqual(vars(getattr(errors, name)(**{field: None})), {field: None})


if __name__ == "__main__":
    unittest.main()
