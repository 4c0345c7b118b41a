"""The examples of the document, those under "More examples" too, as they stand in examples.txt.

A line that begins with "raises" names the error of the call before it and its argument.
"""

import ast
import inspect
import pathlib
import re
import unittest

from evenfailover import errors

EXAMPLES = pathlib.Path(__file__).resolve().parent / "examples.txt"


def examples():
    """Return the examples, each a list of (code, expected), where nothing may be expected."""
    found = []
    for block in EXAMPLES.read_text(encoding="utf-8").strip().split("\n\n"):
        steps = []
        for line in block.split("\n"):
            if line.startswith(">>> "):
                steps.append((line[4:], None))
            else:
                steps[-1] = (steps[-1][0], line)
        found.append(steps)
    return found


class Examples(unittest.TestCase):
    def test_every_example(self):
        found = examples()
        self.assertEqual(len(found), 89)
        for steps in found:
            names = {}
            for code, expected in steps:
                with self.subTest(code=code):
                    self.check(code, expected, names)

    def check(self, code, expected, names):
        if expected is None:
            exec(code, names)
        elif expected.startswith("raises "):
            kind, value = self.named_error(expected)
            with self.assertRaises(errors.FailoverError) as caught:
                eval(code, names)
            self.assertIs(caught.exception.__class__, kind)
            attribute = list(inspect.signature(kind).parameters)[0]
            self.assertEqual(vars(caught.exception), {attribute: value})
        else:
            self.assertEqual(repr(eval(code, names)), expected)

    def named_error(self, expected):
        """Return the class and the argument of an error, which may be given by its name."""
        name, attribute, value = re.fullmatch(r"raises (\w+)\((?:(\w+)=)?(.*)\)", expected).groups()
        kind = getattr(errors, name)
        if attribute is not None:
            self.assertEqual([attribute], list(inspect.signature(kind).parameters))
        return kind, ast.literal_eval(value)


if __name__ == "__main__":
    unittest.main()
