"""Point [2]: the functions of stages 1 to 3 and the formulas of stage 7 take at most some ten thousand steps."""

import math
import sys
import unittest

from evenfailover.counts import copied_to, found_at, held_by_server, held_by_set
from evenfailover.lists import list_at, number_at, numbers_with, place_at
from evenfailover.numbers import binomial, edge_divisor, is_possible, least_lists
from evenfailover.sets import is_set, outside, set_at, set_number
from reference import great_numbers, least

LIMIT = 20000


def lines_run(function, arguments):
    """Return how many lines a call runs, those of the functions that it calls included."""
    many = 0

    def note(frame, event, detail):
        nonlocal many
        if event == "line":
            many += 1
        return note

    before = sys.gettrace()
    sys.settrace(note)
    try:
        function(*arguments)
    finally:
        sys.settrace(before)
    return many


class Steps(unittest.TestCase):
    def assert_few_steps(self, function, *arguments):
        self.assertLess(lines_run(function, arguments), LIMIT, (function, arguments))

    def test_numbers(self):
        for k in range(61):
            self.assert_few_steps(binomial, 60, k)
        for size in range(60):
            self.assert_few_steps(edge_divisor, 60, size)
        for n in (58, 59, 60):
            for depth in range(1, n + 1):
                self.assert_few_steps(least_lists, n, depth)
        self.assert_few_steps(is_possible, 60, 60, 10 ** 40 - 1)

    def test_sets(self):
        for size in range(61):
            many = math.comb(60, size)
            for number in (0, many // 2, many - 1):
                self.assert_few_steps(set_at, 60, size, number)
                members = set_at(60, size, number)
                self.assert_few_steps(set_number, 60, members)
                self.assert_few_steps(outside, 60, members)
                self.assert_few_steps(is_set, 60, members)

    def test_lists(self):
        for depth in (1, 2, 29, 30, 31, 59, 60):
            one = least(60, depth)
            for count in (one, (10 ** 40 - 1) // one * one):
                for number in great_numbers(count):
                    self.assert_few_steps(list_at, 60, depth, count, number)
                    self.assert_few_steps(place_at, 60, depth, count, number)
                    members, rest = place_at(60, depth, count, number)
                    self.assert_few_steps(number_at, 60, count, members, rest)
                    self.assert_few_steps(numbers_with, 60, count, list_at(60, depth, count, number))

    def test_counts(self):
        count = (10 ** 40 - 1) // least(60, 60) * least(60, 60)
        for alive in (2, 30, 31, 59, 60):
            for factor in sorted({1, alive // 2, alive - 1}):
                self.assert_few_steps(held_by_set, 60, count, alive, factor)
                self.assert_few_steps(held_by_server, 60, count, alive, factor)
                self.assert_few_steps(copied_to, 60, count, alive, factor)
                for index in range(0, 60, 7):
                    self.assert_few_steps(found_at, 60, count, alive, factor, index)


if __name__ == "__main__":
    unittest.main()
