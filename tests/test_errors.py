"""The errors: where they stand, and what they hold."""

import unittest

from samelayout import errors
from tests.values import other_kinds

ATTRIBUTES = {
    "BadStep": "value", "BadCount": "value", "Present": "key", "TooMany": "count", "NotOrdered": "slot",
    "NoRing": "value", "Absent": "key", "TooFull": "count", "BadWay": "value", "BadRule": "value",
    "BadName": "value", "BadValue": "value", "BadText": "line", "BadLine": "line",
}


def made_by_position(name, value):
    return getattr(errors, name)(value)


def made_by_name(name, value):
    return getattr(errors, name)(**{ATTRIBUTES[name]: value})


class ErrorsTest(unittest.TestCase):

    def test_all_stand_directly_under_layout_error(self):
        self.assertEqual(errors.LayoutError.__bases__, (ValueError,))
        for name in [*ATTRIBUTES, "Full"]:
            self.assertEqual(getattr(errors, name).__bases__, (errors.LayoutError,), name)

    def test_there_are_no_others(self):
        classes = [name for name, value in vars(errors).items() if isinstance(value, type)]
        self.assertEqual(sorted(classes), sorted([*ATTRIBUTES, "Full", "LayoutError"]))

    def test_each_holds_any_value(self):
        for name, attribute in ATTRIBUTES.items():
            for value in other_kinds():
                for make in (made_by_position, made_by_name):
                    error = make(name, value)
                    self.assertIs(getattr(error, attribute), value)
                    self.assertEqual(list(vars(error)), [attribute])

    def test_each_can_be_raised_and_caught(self):
        for name, attribute in ATTRIBUTES.items():
            for make in (made_by_position, made_by_name):
                with self.assertRaises(errors.LayoutError) as caught:
                    raise make(name, 7)
                self.assertIs(type(caught.exception), getattr(errors, name))
                self.assertEqual(getattr(caught.exception, attribute), 7)

    def test_each_takes_exactly_its_value(self):
        for name in ATTRIBUTES:
            with self.assertRaises(TypeError):
                getattr(errors, name)()
            with self.assertRaises(TypeError):
                getattr(errors, name)(1, 2)

    def test_full_holds_nothing(self):
        error = errors.Full()
        self.assertEqual(vars(error), {})
        with self.assertRaises(errors.LayoutError):
            raise error
