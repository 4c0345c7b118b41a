"""Point [7]: the promises (a), (b), (c) and (e), as far as the modules so far make them."""

import itertools
import random
import unittest

from evenfailover.counts import found_at, held_by_server, held_by_set
from evenfailover.levels import even_reach, is_level
from evenfailover.lists import list_at, number_at, numbers_with, place_at
from evenfailover.numbers import edge_divisor, is_possible, least_lists
from evenfailover.tables import holders, loads, server_loads, standard_table
from reference import is_even, live_sets, places, random_table, table_that_reaches


def failures_and_factors(n, depth):
    """Return (failures, factor, reach) for all failures and factors whose reach the depth allows."""
    found = [
        (failures, factor, min(n, failures + factor))
        for failures in range(1, n) for factor in range(1, n + 1)
    ]
    return [(failures, factor, reach) for failures, factor, reach in found if reach <= depth]


def all_tables(n, depth, most):
    """Return all tables of up to so many lists, but for the order of the lists."""
    lists = list(itertools.permutations(range(n), depth))
    return [
        table
        for many in range(1, most + 1) for table in itertools.combinations_with_replacement(lists, many)
    ]


EVERY_TABLE = (
    [(2, table) for table in all_tables(2, 2, 9)]
    + [(3, table) for table in all_tables(3, 2, 7) + all_tables(3, 3, 7)]
    + [(4, table) for table in all_tables(4, 2, 3)]
)


class Criterion(unittest.TestCase):
    def check(self, n, table):
        """The table is even for the failures and factors that its levels say, and for no others."""
        for failures, factor, reach in failures_and_factors(n, len(table[0])):
            expected = is_even(n, table, failures, factor)
            self.assertIs(even_reach(n, table) >= reach, expected, (n, table, failures, factor))
            levels = [is_level(n, table, size) for size in range(reach)]
            self.assertIs(all(levels), expected, (n, table, failures, factor))

    def test_every_small_table(self):
        for n, table in EVERY_TABLE:
            self.check(n, table)

    def test_random_tables(self):
        source = random.Random(7)
        for n in range(2, 6):
            for depth in range(2, n + 1):
                for many in (5, 12, 20):
                    self.check(n, random_table(source, n, depth, many))

    def test_tables_that_are_even_up_to_a_reach(self):
        for n in range(2, 6):
            for depth in range(1, n + 1):
                for reach in range(1, depth + 1):
                    table = table_that_reaches(n, depth, reach)
                    self.check(n, table)
                    self.check(n, table[1:] + table[:1] + table[:1])
                    self.check(n, table[1:] + table[-1:])


class Existence(unittest.TestCase):
    def test_no_small_table_with_another_number_of_lists_is_even(self):
        even = 0
        for n, table in EVERY_TABLE:
            for failures, factor, reach in failures_and_factors(n, len(table[0])):
                if is_even(n, table, failures, factor):
                    even += 1
                    self.assertTrue(is_possible(n, reach, len(table)), (n, table, failures, factor))
        self.assertGreater(even, 5)

    def test_standard_tables_are_even(self):
        for n in range(2, 6):
            for failures, factor, reach in failures_and_factors(n, n):
                for times in (1, 2, 3):
                    table = standard_table(n, reach, least_lists(n, reach) * times)
                    self.assertTrue(is_even(n, table, failures, factor), (n, failures, factor, times))

    def test_level_numbers_of_great_tables_are_equal(self):
        for n in range(2, 7):
            count = (10 ** 40 - 1) // least_lists(n, n) * least_lists(n, n)
            for depth in range(1, n + 1):
                found = {}
                for order in itertools.permutations(range(n), depth):
                    first, many = numbers_with(n, count, order) or (None, 0)
                    edge = (tuple(sorted(order[:-1])), order[-1])
                    found[edge] = found.get(edge, 0) + many
                self.assertEqual(len(found), edge_divisor(n, depth - 1))
                self.assertEqual(set(found.values()), {count // edge_divisor(n, depth - 1)})


class Numbers(unittest.TestCase):
    def test_lists_with_the_same_beginning_are_consecutive(self):
        for n in range(2, 6):
            table = standard_table(n, n, least_lists(n, n) * 2)
            for depth in range(1, n + 1):
                groups = itertools.groupby(enumerate(table), lambda row: row[1][:depth])
                seen = set()
                for beginning, rows in groups:
                    numbers = [number for number, order in rows]
                    self.assertNotIn(beginning, seen)
                    seen.add(beginning)
                    self.assertEqual(numbers_with(n, len(table), beginning), (numbers[0], len(numbers)))

    def test_there_and_back(self):
        for n in range(2, 61):
            count = least_lists(n, n) * (10 ** 14 + 31)
            for number in (0, 1, count // 2, count // 3, count - 1):
                order, found = places(n, n, count, number)
                self.assertEqual(list_at(n, n, count, number), order)
                members, rest = place_at(n, n, count, number)
                self.assertEqual((members, rest), found[-1])
                self.assertEqual(number_at(n, count, members, rest), number)
                first, many = numbers_with(n, count, order)
                self.assertTrue(first <= number < first + many)


class Counts(unittest.TestCase):
    def test_formulas_agree_with_the_tables(self):
        for n in range(2, 7):
            table = standard_table(n, n, least_lists(n, n))
            for live in live_sets(n):
                for factor in range(1, len(live) + 1):
                    self.check(n, table, live, factor)

    def check(self, n, table, live, factor):
        count, alive = len(table), len(live)
        by_set = {many for members, many in loads(n, table, live, factor)}
        self.assertEqual(by_set, {held_by_set(n, count, alive, factor)})
        by_server = {many for server, many in server_loads(n, table, live, factor)}
        self.assertEqual(by_server, {held_by_server(n, count, alive, factor)})
        indexes = [order.index(holders(order, live, factor)[-1]) for order in table]
        for index in range(n):
            self.assertEqual(indexes.count(index), found_at(n, count, alive, factor, index))


if __name__ == "__main__":
    unittest.main()
