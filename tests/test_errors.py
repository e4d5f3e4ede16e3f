"""Points 3, 4 and 33: the error classes and what they keep."""

import unittest

from fieldberth import errors
from fieldberth.layouts import struct

FIELDS = {
    "BadKind": "kind",
    "BadOption": "name",
    "BadMember": "place",
    "BadBits": "place",
    "BadName": "name",
    "BadPath": "path",
    "BadOctet": "value",
    "BadAddress": "octet",
    "BadValue": "value",
    "BadSize": "many",
    "BadProgram": "place",
    "BadWish": "bit",
    "BadFact": "fact",
}


class ErrorsTest(unittest.TestCase):
    def test_the_base_is_a_direct_subclass_of_value_error(self):
        self.assertEqual(errors.BerthError.__bases__, (ValueError,))

    def test_each_is_a_direct_subclass_of_the_base(self):
        for name in FIELDS:
            self.assertEqual(getattr(errors, name).__bases__, (errors.BerthError,), name)

    def test_there_are_no_others(self):
        made = [name for name, value in vars(errors).items() if isinstance(value, type)]
        self.assertEqual(sorted(made), sorted(["BerthError", *FIELDS]))

    def test_they_are_defined_in_that_file(self):
        for name in ["BerthError", *FIELDS]:
            self.assertEqual(getattr(errors, name).__module__, "fieldberth.errors")

    def test_they_keep_any_object_as_it_is(self):
        layout = struct([])
        things = [None, 5, True, "x", [], [1, [2]], (), {"a": [1]}, layout, -2 ** 70, [layout]]
        for name, field in FIELDS.items():
            for thing in things:
                error = getattr(errors, name)(thing)
                self.assertIs(getattr(error, field), thing)
                self.assertEqual(list(vars(error)), [field])

    def test_fields_are_the_names_of_the_parameters(self):
        for name, field in FIELDS.items():
            thing = ["kept"]
            error = getattr(errors, name)(**{field: thing})
            self.assertIs(getattr(error, field), thing)

    def test_they_want_just_one_thing(self):
        for name in FIELDS:
            with self.assertRaises(TypeError):
                getattr(errors, name)()
            with self.assertRaises(TypeError):
                getattr(errors, name)(1, 2)

    def test_they_can_be_raised_and_caught(self):
        for name in FIELDS:
            with self.assertRaises(errors.BerthError) as caught:
                raise getattr(errors, name)([1])
            self.assertIsInstance(caught.exception, ValueError)

    def test_they_are_equal_only_to_themselves(self):
        for name in FIELDS:
            one = getattr(errors, name)(1)
            self.assertEqual(one, one)
            self.assertNotEqual(one, getattr(errors, name)(1))


if __name__ == "__main__":
    unittest.main()
