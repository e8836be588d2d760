"""[3]: the errors and their fields."""

import unittest

from carrykeys import errors
from support import FLAGS, strange

PLAIN = ["NoKept", "NoStops", "NotSame", "NotSafe", "NoFlag", "NoStrokes", "NothingBegun"]
FIELDS = {
    "NoSchema": ["part"],
    "NoTable": ["name"],
    "NoColumn": ["column"],
    "Missing": ["table", "key"],
    "NoKey": ["key"],
    "NoRow": ["table", "key"],
    "Taken": ["table", "label"],
    "NoStep": ["index"],
    "NotClosed": ["part"],
    "Refused": ["index", "key", "why"],
    "NoText": ["part"],
}


class ErrorsTest(unittest.TestCase):
    def test_the_base_is_a_value_error(self):
        self.assertTrue(issubclass(errors.CarryError, ValueError))

    def test_each_error_is_a_direct_subclass(self):
        for name in PLAIN + list(FIELDS):
            with self.subTest(name):
                self.assertEqual(getattr(errors, name).__bases__, (errors.CarryError,))

    def test_no_two_names_mean_the_same_error(self):
        self.assertEqual(len({getattr(errors, name) for name in PLAIN + list(FIELDS)}), 18)

    def test_errors_without_fields_take_one_string(self):
        for name in PLAIN + ["CarryError"]:
            with self.subTest(name):
                error = getattr(errors, name)("some words")
                self.assertIsInstance(error, errors.CarryError)
                with self.assertRaises(ValueError) as caught:
                    raise error
                self.assertIs(caught.exception, error)

    def test_fields_by_position(self):
        for name, fields in FIELDS.items():
            with self.subTest(name):
                values = [f"value {at}" for at in range(len(fields))]
                error = getattr(errors, name)(*values)
                self.assertEqual([getattr(error, field) for field in fields], values)

    def test_fields_by_name(self):
        for name, fields in FIELDS.items():
            with self.subTest(name):
                values = {field: f"value of {field}" for field in reversed(fields)}
                error = getattr(errors, name)(**values)
                self.assertEqual({field: getattr(error, field) for field in fields}, values)

    def test_fields_hold_any_value_itself(self):
        for name, fields in FIELDS.items():
            for number, value in strange(0, 1, 10 ** 5000, *FLAGS):
                with self.subTest(name=name, number=number):
                    error = getattr(errors, name)(*[value for _ in fields])
                    for field in fields:
                        self.assertIs(getattr(error, field), value)

    def test_fields_are_there_where_the_error_is_caught(self):
        with self.assertRaises(errors.CarryError) as caught:
            raise errors.Refused(2, 7, "label")
        error = caught.exception
        self.assertEqual((error.index, error.key, error.why), (2, 7, "label"))


if __name__ == "__main__":
    unittest.main()
