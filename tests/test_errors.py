"""The errors of the interface, those of later stages too."""

import unittest

from rowmarks import errors
from oddities import NO_NUMBERS, Stranger

SHOWN = {
    "BadMode": "value",
    "BadName": "value",
    "BadValue": "value",
    "BadValues": "value",
    "BadMoment": "value",
    "BadRules": "value",
    "BadText": "line",
    "Impossible": "operation",
    "UnknownTransaction": "value",
    "UnknownPart": "value",
    "UnknownSet": "value",
    "UnknownVersion": "value",
    "Ended": "number",
    "Prepared": "number",
    "FirstPart": "number",
    "StillOpen": "number",
    "TooMany": "limit",
    "Blocked": "numbers",
}
KEPT = NO_NUMBERS + (1, 8, (2, 3), "line", 10 ** 5000, Stranger())


class Errors(unittest.TestCase):
    def test_mark_error_is_a_value_error(self):
        self.assertEqual(errors.MarkError.__bases__, (ValueError,))

    def test_the_others_are_direct_subclasses(self):
        for name in SHOWN:
            with self.subTest(name):
                self.assertEqual(getattr(errors, name).__bases__, (errors.MarkError,))

    def test_there_are_no_other_errors(self):
        found = {name for name in vars(errors) if isinstance(getattr(errors, name), type)}
        self.assertEqual(found, set(SHOWN) | {"MarkError"})

    def test_made_by_position_keeps_the_very_value(self):
        for name, attribute in SHOWN.items():
            for value in KEPT:
                with self.subTest(name):
                    error = getattr(errors, name)(value)
                    self.assertIs(getattr(error, attribute), value)

    def test_made_by_name_keeps_the_very_value(self):
        for name, attribute in SHOWN.items():
            for value in KEPT:
                with self.subTest(name):
                    error = getattr(errors, name)(**{attribute: value})
                    self.assertIs(getattr(error, attribute), value)

    def test_each_is_raised_and_caught_as_all_three(self):
        for name in SHOWN:
            made = getattr(errors, name)
            for kind in (made, errors.MarkError, ValueError):
                with self.subTest(name), self.assertRaises(kind):
                    raise made([1])

    def test_each_takes_just_one_argument(self):
        for name in SHOWN:
            made = getattr(errors, name)
            with self.subTest(name):
                self.assertRaises(TypeError, made)
                self.assertRaises(TypeError, made, 1, 2)
                self.assertRaises(TypeError, made, other=1)

    def test_each_has_a_message_whatever_it_keeps(self):
        for name in SHOWN:
            for value in KEPT:
                with self.subTest(name):
                    self.assertTrue(str(getattr(errors, name)(value)))

    def test_each_defines_its_own_making(self):
        for name in SHOWN:
            self.assertIn("__init__", vars(getattr(errors, name)), name)


if __name__ == "__main__":
    unittest.main()
