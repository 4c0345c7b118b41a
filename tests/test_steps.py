"""Point [2]: the functions of stages 1 and 2 take at most some ten thousand steps."""

import math
import sys
import unittest

from evenfailover.numbers import binomial, edge_divisor, is_possible, least_lists
from evenfailover.sets import is_set, outside, set_at, set_number

LIMIT = 20000


def lines_run(function, arguments):
    """Return how many lines a call runs, those of the functions that it calls included."""
    many = 0

    def note(frame, event, detail):
        nonlocal many
        if event == "line":
            many += 1
        return note

    before = sys.gettrace()
    sys.settrace(note)
    try:
        function(*arguments)
    finally:
        sys.settrace(before)
    return many


class Steps(unittest.TestCase):
    def assert_few_steps(self, function, *arguments):
        self.assertLess(lines_run(function, arguments), LIMIT, (function, arguments))

    def test_numbers(self):
        for k in range(61):
            self.assert_few_steps(binomial, 60, k)
        for size in range(60):
            self.assert_few_steps(edge_divisor, 60, size)
        for n in (58, 59, 60):
            for depth in range(1, n + 1):
                self.assert_few_steps(least_lists, n, depth)
        self.assert_few_steps(is_possible, 60, 60, 10 ** 40 - 1)

    def test_sets(self):
        for size in range(61):
            many = math.comb(60, size)
            for number in (0, many // 2, many - 1):
                self.assert_few_steps(set_at, 60, size, number)
                members = set_at(60, size, number)
                self.assert_few_steps(set_number, 60, members)
                self.assert_few_steps(outside, 60, members)
                self.assert_few_steps(is_set, 60, members)


if __name__ == "__main__":
    unittest.main()
