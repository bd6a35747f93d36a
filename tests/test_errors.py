"""The refusals [0.4]."""

import unittest

from slanttables import errors

WITHOUT_FIELDS = ["NoSlants", "NoRow", "NoNumber", "NoLine", "NotEven", "NotFull"]
WITH_FIELDS = {"NotStrong": ["size"], "NoText": ["row"], "TooGreat": ["many", "most"]}


class Refusals(unittest.TestCase):
    def test_slant_error_stands_straight_under_value_error(self):
        self.assertEqual(errors.SlantError.__bases__, (ValueError,))

    def test_each_stands_straight_under_slant_error(self):
        for name in WITHOUT_FIELDS + list(WITH_FIELDS):
            with self.subTest(name):
                self.assertEqual(getattr(errors, name).__bases__, (errors.SlantError,))

    def test_each_is_a_class_of_its_own(self):
        classes = [getattr(errors, name) for name in WITHOUT_FIELDS + list(WITH_FIELDS)]
        self.assertEqual(len(set(classes)), 9)

    def test_those_without_fields_are_made_of_nothing(self):
        for name in WITHOUT_FIELDS:
            with self.subTest(name):
                error = getattr(errors, name)()
                self.assertEqual(vars(error), {})
                with self.assertRaises(errors.SlantError):
                    raise error

    def test_fields_are_set_when_made(self):
        for name, fields in WITH_FIELDS.items():
            with self.subTest(name):
                values = list(range(3, 3 + len(fields)))
                error = getattr(errors, name)(*values)
                self.assertEqual(vars(error), dict(zip(fields, values)))
                with self.assertRaises(ValueError):
                    raise error

    def test_fields_are_asked_for(self):
        for name, fields in WITH_FIELDS.items():
            with self.subTest(name):
                with self.assertRaises(TypeError):
                    getattr(errors, name)(*[1] * (len(fields) - 1))


if __name__ == "__main__":
    unittest.main()
