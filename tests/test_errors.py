"""The error classes of the interface."""

import unittest

from turnwires import errors

WITH_ATTRIBUTE = {
    "NoSize": "size",
    "NoRing": "index",
    "NoPlace": "place",
    "WrongSize": "size",
    "NoText": "text",
    "NoName": "name",
    "NoKind": "kind",
    "NoMost": "most",
    "TwoKinds": "name",
    "NoPart": "part",
    "Unfilled": "name",
    "WrongKind": "name",
    "NoValue": "n",
    "NoShare": "name",
    "NoSighting": "k",
    "NoHalves": "length",
}


class ErrorsTest(unittest.TestCase):
    def test_base_class(self):
        self.assertEqual(errors.WireError.__bases__, (ValueError,))

    def test_all_stand_directly_under_the_base_class(self):
        for name in [*WITH_ATTRIBUTE, "NoQuot"]:
            with self.subTest(name):
                self.assertEqual(getattr(errors, name).__bases__, (errors.WireError,))

    def test_all_are_defined_in_their_file(self):
        for name in ["WireError", *WITH_ATTRIBUTE, "NoQuot"]:
            self.assertEqual(getattr(errors, name).__module__, "turnwires.errors")

    def test_attributes_by_position_from_any_values(self):
        for name, attribute in WITH_ATTRIBUTE.items():
            for value in (0, -7, 10 ** 5000, "ab\n", "", None, (1, 2), [3], {"a": 4}, object()):
                with self.subTest(name):
                    self.assertIs(getattr(getattr(errors, name)(value), attribute), value)

    def test_no_quot_has_no_attribute(self):
        self.assertEqual(vars(errors.NoQuot()), {})

    def test_they_are_caught_as_value_errors(self):
        with self.assertRaises(ValueError) as caught:
            raise errors.NoPart(3)
        self.assertEqual(caught.exception.part, 3)


if __name__ == "__main__":
    unittest.main()
