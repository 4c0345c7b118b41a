"""What several tests check in the same way."""

import copy
import inspect
import unittest

from evenfailover.errors import FailoverError


class Checks(unittest.TestCase):
    def assert_error(self, kind, attribute, value, function, *arguments):
        """The call raises this very error with this value, and leaves its arguments alone."""
        before = repr(copy.deepcopy(arguments))
        with self.assertRaises(FailoverError, msg=(function.__name__, arguments)) as caught:
            function(*arguments)
        self.assertIs(caught.exception.__class__, kind, (function.__name__, arguments))
        self.assertEqual(list(vars(caught.exception)), [attribute])
        # By their texts as well: True equals 1.
        self.assertEqual(getattr(caught.exception, attribute), value)
        self.assertEqual(repr(getattr(caught.exception, attribute)), repr(value))
        self.assertEqual(repr(arguments), before)

    def assert_raises_quickly(self, kind, attribute, value, function, *arguments):
        """As assert_error, without a look at the arguments afterwards: for very many calls."""
        try:
            function(*arguments)
        except FailoverError as error:
            self.assertIs(error.__class__, kind)
            self.assertEqual(vars(error), {attribute: value})
        else:
            self.fail((function.__name__, arguments))

    def assert_interface(self, module, expected):
        """The functions have these parameters in this order and are defined in this module."""
        for name, parameters in expected.items():
            function = getattr(module, name)
            found = inspect.signature(function).parameters.values()
            self.assertEqual([parameter.name for parameter in found], parameters, name)
            for parameter in found:
                self.assertIs(parameter.kind, inspect.Parameter.POSITIONAL_OR_KEYWORD)
                self.assertIs(parameter.default, inspect.Parameter.empty)
            self.assertEqual(function.__module__, module.__name__)

    def assert_same_by_name(self, function, *arguments):
        """The call returns the same by position, by name in any order, and when it is made again."""
        expected = function(*arguments)
        names = list(inspect.signature(function).parameters)
        by_name = dict(zip(names, arguments, strict=True))
        self.assertEqual(function(**by_name), expected)
        self.assertEqual(function(**dict(reversed(by_name.items()))), expected)
        self.assertEqual(function(*arguments), expected)
