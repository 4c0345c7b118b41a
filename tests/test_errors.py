"""errors.py: the classes of the interface and their attributes (points [2] and "The interface")."""

import copy
import pickle
import unittest

from any_values import not_integers
from evenfailover import errors

ATTRIBUTES = {
    "NoNumber": "value",
    "NotPossible": "count",
    "TooMany": "count",
    "TooShort": "order",
    "Unbalanced": "members",
    "NoCluster": "field",
    "NotLive": "value",
    "NotDead": "value",
    "TooFew": "alive",
    "NoUndo": None,
    "NoText": "row",
    "NoLine": "value",
}


def error_classes():
    return [getattr(errors, name) for name in ATTRIBUTES]


class ErrorClasses(unittest.TestCase):
    def test_base_is_a_value_error(self):
        self.assertEqual(errors.FailoverError.__bases__, (ValueError,))

    def test_each_is_directly_under_the_base(self):
        for kind in error_classes():
            with self.subTest(kind=kind):
                self.assertEqual(kind.__bases__, (errors.FailoverError,))

    def test_none_is_a_base_of_another(self):
        for upper in error_classes():
            for lower in error_classes():
                if upper is not lower:
                    self.assertFalse(issubclass(lower, upper), (lower, upper))

    def test_there_are_twelve(self):
        self.assertEqual(len(set(error_classes())), 12)

    def test_each_is_defined_in_its_file(self):
        for kind in [errors.FailoverError] + error_classes():
            self.assertEqual(kind.__module__, "evenfailover.errors")


class ErrorAttributes(unittest.TestCase):
    def test_attribute_by_position_and_by_name(self):
        for name, attribute in ATTRIBUTES.items():
            if attribute is None:
                continue
            kind = getattr(errors, name)
            for value in [7, -1, 10 ** 40, 10 ** 6000] + not_integers():
                with self.subTest(kind=name):
                    self.assertIs(getattr(kind(value), attribute), value)
                    self.assertIs(getattr(kind(**{attribute: value}), attribute), value)

    def test_argument_is_needed(self):
        for name, attribute in ATTRIBUTES.items():
            if attribute is not None:
                with self.subTest(kind=name), self.assertRaises(TypeError):
                    getattr(errors, name)()

    def test_no_undo_takes_no_argument(self):
        error = errors.NoUndo()
        self.assertIsInstance(error, errors.FailoverError)
        self.assertEqual(vars(error), {})

    def test_argument_is_not_changed(self):
        value = [1, {"a": [2]}]
        errors.NoNumber(value)
        self.assertEqual(value, [1, {"a": [2]}])

    def test_can_be_caught_as_value_error(self):
        with self.assertRaises(ValueError) as caught:
            raise errors.TooFew(3)
        self.assertEqual(caught.exception.alive, 3)

    def test_text_exists_for_every_value(self):
        self.assertIsInstance(str(errors.NoNumber(10 ** 6000)), str)

    def test_copies_keep_the_attribute(self):
        for name, attribute in ATTRIBUTES.items():
            kind = getattr(errors, name)
            error = kind() if attribute is None else kind(**{attribute: (1, 2)})
            for other in (copy.copy(error), pickle.loads(pickle.dumps(error))):
                self.assertIs(other.__class__, kind)
                self.assertEqual(vars(other), vars(error))


if __name__ == "__main__":
    unittest.main()
