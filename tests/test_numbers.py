"""numbers.py: points [8] to [11]."""

import copy
import inspect
import math
import unittest

from any_values import not_integers
from evenfailover import numbers
from evenfailover.numbers import binomial, edge_divisor, is_possible, least_lists


class Binomial(unittest.TestCase):
    def test_example(self):
        self.assertEqual(binomial(5, 2), 10)

    def test_all_in_range(self):
        for n in range(61):
            for k in range(61):
                self.assertEqual(binomial(n, k), math.comb(n, k), (n, k))

    def test_more_than_there_are(self):
        self.assertEqual(binomial(0, 1), 0)
        self.assertEqual(binomial(59, 60), 0)
        self.assertEqual(binomial(0, 60), 0)

    def test_edges(self):
        self.assertEqual(binomial(0, 0), 1)
        self.assertEqual(binomial(60, 0), 1)
        self.assertEqual(binomial(60, 60), 1)
        self.assertEqual(binomial(60, 30), 118264581564861424)

    def test_somewhat_beyond(self):
        self.assertEqual(binomial(70, 35), math.comb(70, 35))
        self.assertEqual(binomial(5, -1), 0)
        self.assertEqual(binomial(-1, 0), 0)

    def test_result_is_an_int(self):
        for n in range(5):
            for k in range(5):
                self.assertIs(binomial(n, k).__class__, int)


class EdgeDivisor(unittest.TestCase):
    def test_example(self):
        self.assertEqual(edge_divisor(4, 1), 12)

    def test_every_size(self):
        for n in range(2, 61):
            for size in range(n):
                self.assertEqual(edge_divisor(n, size), n * math.comb(n - 1, size), (n, size))

    def test_least_and_greatest_size(self):
        for n in range(2, 61):
            self.assertEqual(edge_divisor(n, 0), n)
            self.assertEqual(edge_divisor(n, n - 1), n)

    def test_counts_pairs_of_set_and_server(self):
        for n in range(2, 8):
            for size in range(n):
                pairs = [
                    (mask, server)
                    for mask in range(2 ** n) if bin(mask).count("1") == size
                    for server in range(n) if not mask >> server & 1
                ]
                self.assertEqual(edge_divisor(n, size), len(pairs), (n, size))


class LeastLists(unittest.TestCase):
    def test_example(self):
        self.assertEqual(least_lists(60, 3), 102660)

    def test_every_depth(self):
        for n in range(2, 61):
            for depth in range(1, n + 1):
                divisors = [n * math.comb(n - 1, size) for size in range(depth)]
                self.assertEqual(least_lists(n, depth), math.lcm(*divisors), (n, depth))

    def test_least_depth(self):
        for n in range(2, 61):
            self.assertEqual(least_lists(n, 1), n)

    def test_greatest_depth_is_the_multiple_of_one_to_n(self):
        for n in range(2, 61):
            self.assertEqual(least_lists(n, n), math.lcm(*range(1, n + 1)), n)

    def test_small_values(self):
        self.assertEqual([least_lists(4, depth) for depth in (1, 2, 3, 4)], [4, 12, 12, 12])
        self.assertEqual([least_lists(5, depth) for depth in (1, 2, 3, 4, 5)], [5, 20, 60, 60, 60])

    def test_somewhat_beyond(self):
        self.assertEqual(least_lists(64, 64), math.lcm(*range(1, 65)))
        self.assertEqual(least_lists(4, 0), 1)
        self.assertEqual(least_lists(4, 5), 0)
        self.assertEqual(least_lists(4, 7), 0)


class IsPossible(unittest.TestCase):
    def test_example(self):
        self.assertIs(is_possible(4, 2, 18), False)

    def test_multiples_and_numbers_beside_them(self):
        for n in range(2, 61):
            for depth in {1, 2, n // 2 + 1, n - 1, n}:
                least = math.lcm(*[n * math.comb(n - 1, size) for size in range(depth)])
                for factor in (1, 2, 3, 7, 10 ** 12):
                    count = least * factor
                    self.assertIs(is_possible(n, depth, count), True, (n, depth, count))
                    self.assertIs(is_possible(n, depth, count + 1), False, (n, depth, count))
                    self.assertIs(is_possible(n, depth, count - 1), False, (n, depth, count))

    def test_every_small_count(self):
        for n in range(2, 6):
            for depth in range(1, n + 1):
                least = math.lcm(*[n * math.comb(n - 1, size) for size in range(depth)])
                for count in range(-130, 131):
                    expected = count > 0 and count % least == 0
                    self.assertIs(is_possible(n, depth, count), expected, (n, depth, count))

    def test_forty_digits(self):
        count = 12 * (10 ** 39 // 12)
        self.assertIs(is_possible(4, 4, count), True)
        self.assertIs(is_possible(4, 4, count + 6), False)

    def test_zero_and_below(self):
        for count in (0, -1, -12, -24, -(10 ** 39)):
            self.assertIs(is_possible(4, 4, count), False)

    def test_values_that_are_no_integers(self):
        for n, depth in ((2, 1), (4, 2), (4, 4), (60, 60)):
            for count in not_integers():
                before = copy.deepcopy(count)
                self.assertIs(is_possible(n, depth, count), False, count)
                self.assertEqual(count, before)

    def test_bool_is_no_integer_even_where_one_is_possible(self):
        # With the depth 0 the least number is 1, which True must still not pass for.
        self.assertIs(is_possible(4, 0, 1), True)
        self.assertIs(is_possible(4, 0, True), False)
        self.assertIs(is_possible(4, 0, False), False)

    def test_somewhat_beyond(self):
        for depth in (5, 6, 9):
            self.assertIs(is_possible(4, depth, 12), False)
            self.assertIs(is_possible(4, depth, 0), False)


class Interface(unittest.TestCase):
    def test_arguments_by_name(self):
        self.assertEqual(binomial(n=5, k=2), 10)
        self.assertEqual(edge_divisor(n=4, size=1), 12)
        self.assertEqual(least_lists(n=60, depth=3), 102660)
        self.assertIs(is_possible(n=4, depth=2, count=24), True)
        self.assertIs(is_possible(count=18, depth=2, n=4), False)

    def test_names_in_their_order_and_file(self):
        expected = {
            "binomial": ["n", "k"],
            "edge_divisor": ["n", "size"],
            "least_lists": ["n", "depth"],
            "is_possible": ["n", "depth", "count"],
        }
        for name, parameters in expected.items():
            function = getattr(numbers, name)
            self.assertEqual(list(inspect.signature(function).parameters), parameters)
            self.assertEqual(function.__module__, "evenfailover.numbers")


if __name__ == "__main__":
    unittest.main()
