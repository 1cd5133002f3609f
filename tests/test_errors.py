"""withincall/errors.py: all error classes and their attributes."""

import copy
import inspect

from tests.common import Case
from withincall import errors

ATTRIBUTES = {
    "InvalidNet": ("reason", "position"),
    "InvalidState": ("position",),
    "InvalidMove": (),
    "InvalidBox": ("position",),
    "InvalidText": ("line",),
    "InvalidLimit": ("value",),
    "InvalidName": ("name",),
    "UnknownName": ("name",),
    "NotFound": ("number",),
    "Blocked": ("move", "channels", "at"),
    "Unreachable": ("objection",),
    "NoState": ("certificate",),
    "Unrecoverable": ("conflict",),
    "Contradiction": ("certificate",),
    "TooLarge": ("size", "most"),
    "NothingToUndo": (),
    "NothingToRedo": (),
}


class TestErrors(Case):

    def test_the_file_has_the_listed_classes_and_no_others(self):
        found = [name for name, _ in inspect.getmembers(errors, inspect.isclass)]
        self.assertEqual(sorted(found), sorted(["WithinCallError", *ATTRIBUTES]))

    def test_the_base_class_is_a_value_error(self):
        self.assertEqual(errors.WithinCallError.__bases__, (ValueError,))

    def test_all_others_derive_directly_from_the_base_class(self):
        for name in ATTRIBUTES:
            with self.subTest(name):
                self.assertEqual(getattr(errors, name).__bases__, (errors.WithinCallError,))

    def test_an_error_is_of_no_other_own_class(self):
        for name, attributes in ATTRIBUTES.items():
            made = getattr(errors, name)(*attributes)
            own = [other for other in ATTRIBUTES if isinstance(made, getattr(errors, other))]
            self.assertEqual(own, [name])
            self.assertIsInstance(made, errors.WithinCallError)
            self.assertIsInstance(made, ValueError)

    def test_attributes_are_taken_in_the_listed_order(self):
        for name, attributes in ATTRIBUTES.items():
            with self.subTest(name):
                values = tuple([f"the {attribute}" for attribute in attributes])
                made = getattr(errors, name)(*values)
                self.assertEqual(vars(made), dict(zip(attributes, values)))

    def test_an_attribute_may_hold_any_value(self):
        for value in (None, True, -1, 10 ** 5000, "text", (0, "advance"), [1], 1.5):
            self.assertIs(errors.NotFound(value).number, value)
            self.assertIs(errors.InvalidLimit(value).value, value)
            self.assertIs(errors.InvalidNet("capacity", value).position, value)

    def test_attributes_are_required(self):
        for name, attributes in ATTRIBUTES.items():
            if attributes:
                with self.subTest(name):
                    self.assertRaises(TypeError, getattr(errors, name), *attributes[1:])
                    self.assertRaises(TypeError, getattr(errors, name), *attributes, "more")

    def test_an_error_can_be_copied(self):
        for name, attributes in ATTRIBUTES.items():
            with self.subTest(name):
                made = getattr(errors, name)(*attributes)
                self.assertEqual(vars(copy.copy(made)), vars(made))

    def test_each_class_is_raised_and_caught_by_its_name(self):
        for name, attributes in ATTRIBUTES.items():
            error = getattr(errors, name)
            with self.subTest(name), self.assertRaises(error):
                raise error(*attributes)
