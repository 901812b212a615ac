"""Section 17: the errors and their fields."""

import unittest

from rightstate import errors
from rightstate.errors import RightError

FIELDS = {
    "BadKind": ["part"],
    "BadHistory": ["index"],
    "BadProgram": ["place"],
    "NoKind": ["thing"],
    "NoFunction": ["thing"],
    "NoVariable": ["thing"],
    "BadChoices": ["index"],
    "NoNumber": ["value"],
    "NoPlace": ["place"],
    "NoEntry": [],
    "BadEntry": [],
    "TooMany": ["many"],
    "TooLong": ["many"],
    "NotSafe": ["place", "why"],
    "Parted": ["history", "why"],
    "BadBuilt": ["place"],
    "NoMethod": ["index"],
    "Met": ["error"],
    "Barred": ["state", "method"],
    "Waiting": ["method"],
    "NoState": ["state"],
    "NoText": ["line"],
    "NoName": ["thing"],
    "Taken": ["thing"],
    "NoThing": [],
}
VALUES = [["a", []], [(0, 1), {"k": 1}]]


class Errors(unittest.TestCase):
    def test_each_is_under_right_error_and_no_other_class_of_the_package(self):
        self.assertEqual(RightError.__bases__, (ValueError,))
        for name in FIELDS:
            with self.subTest(name):
                one = getattr(errors, name)
                self.assertEqual(one.__bases__, (RightError,))
                self.assertEqual((one.__name__, one.__module__), (name, "rightstate.errors"))

    def test_there_are_no_others(self):
        found = [name for name in vars(errors) if isinstance(getattr(errors, name), type)]
        self.assertEqual(sorted(found), sorted(list(FIELDS) + ["RightError"]))

    def test_fields_by_place(self):
        for name, fields in FIELDS.items():
            for values in VALUES:
                with self.subTest(name, values=values):
                    error = getattr(errors, name)(*values[:len(fields)])
                    self.assertEqual(len(vars(error)), len(fields))
                    for field, value in zip(fields, values):
                        self.assertIs(getattr(error, field), value)

    def test_fields_by_name(self):
        for name, fields in FIELDS.items():
            for values in VALUES:
                with self.subTest(name, values=values):
                    told = dict(reversed(list(zip(fields, values))))
                    error = getattr(errors, name)(**told)
                    for field in fields:
                        self.assertIs(getattr(error, field), told[field])

    def test_wrong_number_of_fields(self):
        for name, fields in FIELDS.items():
            if fields:
                with self.subTest(name), self.assertRaises(TypeError):
                    getattr(errors, name)()
                with self.subTest(name), self.assertRaises(TypeError):
                    getattr(errors, name)(*[1] * (len(fields) + 1))

    def test_caught_as_what_they_are(self):
        for name, fields in FIELDS.items():
            with self.subTest(name), self.assertRaises(ValueError):
                raise getattr(errors, name)(*[1] * len(fields))


if __name__ == "__main__":
    unittest.main()
