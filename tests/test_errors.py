"""[0.6] and the interface's list: all errors, where they stand and what they bear."""

import unittest

from spreadhues import errors
from tests.helpers import ATTRIBUTES, Case


class Errors(Case):
    def test_hue_error_stands_directly_under_value_error(self):
        self.assertEqual(errors.HueError.__bases__, (ValueError,))

    def test_each_error_stands_directly_under_hue_error(self):
        for name in ATTRIBUTES:
            self.assertEqual(getattr(errors, name).__bases__, (errors.HueError,), name)

    def test_there_are_no_other_errors(self):
        classes = {name for name, thing in vars(errors).items() if isinstance(thing, type)}
        self.assertEqual(classes, {*ATTRIBUTES, "HueError"})

    def test_each_error_is_defined_in_errors(self):
        for name in ATTRIBUTES:
            self.assertEqual(getattr(errors, name).__module__, "spreadhues.errors")

    def test_attributes_bear_the_very_things_in_order(self):
        things = (["thing"], ("other",))
        for name, attributes in ATTRIBUTES.items():
            given = things[:len(attributes)]
            error = getattr(errors, name)(*given)
            self.assertEqual(list(vars(error)), list(attributes), name)
            for attribute, thing in zip(attributes, given):
                self.assertEqual(getattr(error, attribute), thing, name)
            by_name = getattr(errors, name)(**dict(zip(attributes, given)))
            self.assertEqual(vars(by_name), vars(error), name)

    def test_errors_are_raised_with_a_message(self):
        for name, attributes in ATTRIBUTES.items():
            with self.assertRaises(ValueError) as caught:
                raise getattr(errors, name)(*range(len(attributes)))
            self.assertTrue(str(caught.exception))

    def test_errors_take_just_their_arguments(self):
        for name, attributes in ATTRIBUTES.items():
            for many in (len(attributes) - 1, len(attributes) + 1):
                with self.assertRaises(TypeError):
                    getattr(errors, name)(*range(many))


if __name__ == "__main__":
    unittest.main()
