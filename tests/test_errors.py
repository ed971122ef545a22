"""Point 3: the errors and their fields."""

import unittest

from batchlimits import errors

PLAIN = (
    "InvalidItem", "InvalidTraffic", "InvalidStretch", "InvalidCondition", "InvalidRule", "InvalidMeasure",
    "InvalidGap", "InvalidGaps", "InvalidEdit", "InvalidPattern", "InvalidNumber", "InvalidCommand", "NothingToUndo",
)
FIELDS = {"Blocked": "stretch", "Unexplained": "batch", "InvalidText": "position", "TooLarge": "limit"}


class ErrorsTest(unittest.TestCase):
    def test_base_is_a_value_error(self):
        self.assertEqual(errors.BatchError.__bases__, (ValueError,))

    def test_every_error_is_a_direct_subclass_of_the_base(self):
        for name in (*PLAIN, *FIELDS):
            with self.subTest(name=name):
                self.assertEqual(getattr(errors, name).__bases__, (errors.BatchError,))

    def test_there_are_no_other_errors(self):
        found = [name for name, value in vars(errors).items() if isinstance(value, type)]
        self.assertEqual(sorted(found), sorted(("BatchError", *PLAIN, *FIELDS)))

    def test_plain_errors_take_one_string(self):
        for name in ("BatchError", *PLAIN):
            with self.subTest(name=name):
                error = getattr(errors, name)("some words")
                self.assertEqual(error.args, ("some words",))
                self.assertEqual(str(error), "some words")

    def test_fields_are_stored_under_their_names(self):
        for name, field in FIELDS.items():
            for value in [None, 0, 7, (2, 4), (), "text", [1], {"a": 1}]:
                with self.subTest(name=name, value=value):
                    kind = getattr(errors, name)
                    self.assertEqual(vars(kind(value)), {field: value})
                    self.assertEqual(vars(kind(**{field: value})), {field: value})

    def test_errors_with_a_field_need_it(self):
        for name in FIELDS:
            with self.subTest(name=name), self.assertRaises(TypeError):
                getattr(errors, name)()

    def test_errors_with_a_field_have_words(self):
        for name in FIELDS:
            with self.subTest(name=name):
                self.assertIn("12", str(getattr(errors, name)(12)))

    def test_errors_can_be_caught_by_the_base_and_as_a_value_error(self):
        for name in (*PLAIN, *FIELDS):
            for caught in (errors.BatchError, ValueError):
                with self.subTest(name=name, caught=caught), self.assertRaises(caught):
                    raise getattr(errors, name)("words")
