"""Point [2]: some calls take at most some ten thousand steps.

These are the functions of stages 1 to 3, the formulas of stage 7 and the calls of stage 11. The document does not say what a step is: the bound holds for the rows that are run and for the
instructions of the interpreter.
"""

import math
import unittest

from evenfailover.cluster import Cluster
from evenfailover.counts import copied_to, found_at, held_by_server, held_by_set
from evenfailover.errors import FailoverError
from evenfailover.lists import list_at, number_at, numbers_with, place_at
from evenfailover.numbers import binomial, edge_divisor, is_possible, least_lists
from evenfailover.sets import is_set, outside, set_at, set_number
from reference import great_numbers, least
from stepping import LIMIT, steps

DEPTHS = (1, 2, 29, 30, 31, 59, 60)


def counts_of(depth):
    """Return possible counts for 60 servers: the least, one between, the greatest of forty digits."""
    one = least(60, depth)
    greatest = (10 ** 40 - 1) // one * one
    return sorted({one, 7 * one, greatest // 2 // one * one, greatest})


def some_numbers(count):
    """Return a few of the numbers below the count, the ends among them."""
    found = great_numbers(count)
    return sorted({found[0], found[1], found[len(found) // 2], found[-2], found[-1]})


class Counting(unittest.TestCase):
    def test_rows_and_instructions_are_counted(self):
        def three(limit):
            total = 0
            for number in range(limit):
                total += number
            return total

        few = steps(three, (10,))
        many = steps(three, (1010,))
        # Two rows, and some instructions each, for each round more.
        self.assertEqual(many[0] - few[0], 2000)
        self.assertGreaterEqual(many[1] - few[1], 4000)


class Steps(unittest.TestCase):
    def assert_few_steps(self, function, *arguments):
        rows, instructions = steps(function, arguments)
        self.assertGreater(rows, 0)
        self.assertLessEqual(rows, LIMIT, (function.__name__, arguments))
        self.assertLessEqual(instructions, LIMIT, (function.__name__, arguments))

    def assert_few_steps_to_an_error(self, function, *arguments):
        def attempt():
            with self.assertRaises(FailoverError):
                function(*arguments)

        # The rows of assertRaises count as well, and are few.
        self.assert_few_steps(attempt)

    def test_numbers(self):
        for k in range(61):
            self.assert_few_steps(binomial, 60, k)
        for size in range(60):
            self.assert_few_steps(edge_divisor, 60, size)
        for n in (58, 59, 60):
            for depth in range(1, n + 1):
                self.assert_few_steps(least_lists, n, depth)
        for depth in DEPTHS:
            for count in counts_of(depth):
                self.assert_few_steps(is_possible, 60, depth, count)
                self.assert_few_steps(is_possible, 60, depth, count + 1)
                self.assert_few_steps(is_possible, 60, depth, count // 2)

    def test_sets(self):
        for size in range(61):
            many = math.comb(60, size)
            for number in sorted({0, many // 3, many // 2, many - 1}):
                self.assert_few_steps(set_at, 60, size, number)
                members = set_at(60, size, number)
                self.assert_few_steps(set_number, 60, members)
                self.assert_few_steps(outside, 60, members)
                self.assert_few_steps(is_set, 60, members)
            self.assert_few_steps_to_an_error(set_at, 60, size, many)

    def test_lists(self):
        for depth in DEPTHS:
            for count in counts_of(depth):
                for number in some_numbers(count):
                    self.assert_few_steps(list_at, 60, depth, count, number)
                    self.assert_few_steps(place_at, 60, depth, count, number)
                    self.assert_few_steps(numbers_with, 60, count, list_at(60, depth, count, number))
                    members, rest = place_at(60, depth, count, number)
                    self.assert_few_steps(number_at, 60, count, members, rest)
                self.assert_few_steps(number_at, 60, count, tuple(range(depth)), 0)
                self.assert_few_steps(number_at, 60, count, tuple(range(60 - depth, 60)), 0)
                self.assert_few_steps(numbers_with, 60, count, tuple(range(depth)))
                self.assert_few_steps(numbers_with, 60, count, tuple(range(depth))[::-1])

    def test_lists_with_errors(self):
        for depth in DEPTHS:
            for count in counts_of(depth):
                for wrong in (count + 1, count - 1):
                    self.assert_few_steps_to_an_error(list_at, 60, depth, wrong, 0)
                    self.assert_few_steps_to_an_error(place_at, 60, depth, wrong, 0)
                    self.assert_few_steps_to_an_error(number_at, 60, wrong, tuple(range(depth)), 0)
                    self.assert_few_steps_to_an_error(numbers_with, 60, wrong, tuple(range(depth)))
                self.assert_few_steps_to_an_error(list_at, 60, depth, count, count)
                self.assert_few_steps_to_an_error(place_at, 60, depth, count, count)
                self.assert_few_steps_to_an_error(number_at, 60, count, tuple(range(depth)), count)

    def test_formulas(self):
        for depth in DEPTHS:
            for alive in range(60 - depth + 1, 61):
                # The depth that the formulas need: n - alive + factor.
                factor = depth - 60 + alive
                if alive % 7 == 4 or factor in (1, depth // 2, depth):
                    self.check_formulas(depth, alive, factor)

    def check_formulas(self, depth, alive, factor):
        for count in counts_of(depth):
            self.assert_few_steps(held_by_set, 60, count, alive, factor)
            self.assert_few_steps(held_by_server, 60, count, alive, factor)
            for index in sorted({0, factor - 1, (factor + depth) // 2, depth - 1, 59}):
                self.assert_few_steps(found_at, 60, count, alive, factor, index)
            self.assert_few_steps_to_an_error(held_by_set, 60, count + 1, alive, factor)
        if factor < alive:
            for count in counts_of(depth + 1):
                self.assert_few_steps(copied_to, 60, count, alive, factor)

    def test_cluster(self):
        for failures, factor in ((1, 1), (1, 28), (1, 60), (2, 1), (29, 1), (30, 30), (59, 1), (59, 30), (59, 60)):
            for count in counts_of(min(60, failures + factor)):
                self.assert_few_steps(Cluster, 60, failures, factor, count)
                self.assert_few_steps_to_an_error(Cluster, 60, failures, factor, count + 1)
                cluster = Cluster(60, failures, factor, count)
                self.check_cluster(cluster, count)
                for server in range(failures):
                    self.assert_few_steps(cluster.fail, server)
                    if server % 20 == 19:
                        self.check_cluster(cluster, count)
                self.check_cluster(cluster, count)
                for server in range(failures):
                    self.assert_few_steps(cluster.recover, server)
                for change in range(2 * failures):
                    self.assert_few_steps(cluster.undo)
                self.assert_few_steps_to_an_error(cluster.undo)

    def check_cluster(self, cluster, count):
        for function in (cluster.live, cluster.copied, cluster.changes, cluster.copy, cluster.__len__):
            self.assert_few_steps(function)
        self.assert_few_steps(cluster.__eq__, cluster.copy())
        for server in (0, 30, 59):
            if server in cluster.live():
                self.assert_few_steps(cluster.load, server)
                for shard in (0, count // 2, count - 1):
                    self.assert_few_steps(cluster.owners, shard)
                    if len(cluster) > cluster.n - cluster.failures:
                        self.assert_few_steps(cluster.successor, shard, server)
                    else:
                        self.assert_few_steps_to_an_error(cluster.successor, shard, server)
                        self.assert_few_steps_to_an_error(cluster.fail, server)
            else:
                self.assert_few_steps_to_an_error(cluster.load, server)

    def test_cluster_after_many_changes(self):
        cluster = Cluster(60, 59, 30, least(60, 60))
        for round_number in range(5000):
            cluster.fail(7)
            cluster.recover(7)
        self.assertEqual(cluster.changes(), 10000)
        self.check_cluster(cluster, least(60, 60))
        self.assert_few_steps(cluster.fail, 7)
        self.assert_few_steps(cluster.recover, 7)
        self.assert_few_steps(cluster.undo)


if __name__ == "__main__":
    unittest.main()
