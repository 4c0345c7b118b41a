"""levels.py: points [6] and [29] to [31]."""

import random
import unittest

from checking import Checks
from evenfailover import levels
from evenfailover.levels import even_reach, is_level, level_numbers
from reference import least, random_table, rule_table, sets_of, small_tables, table_that_reaches

ROUND = ((0, 1, 2), (1, 2, 0), (2, 0, 1))


def counted(table, members, server):
    """Return one level number, counted list by list."""
    size = len(members)
    return sum([set(order[:size]) == set(members) and order[size] == server for order in table])


def all_counted(n, table, size):
    """Return ((members, server), many) for all level numbers, those that are 0 included."""
    return [
        ((members, server), counted(table, members, server))
        for members in sets_of(n, size) for server in range(n) if server not in members
    ]


def random_tables():
    """Return (n, table) for every depth of 2 to 5 servers."""
    source = random.Random(29)
    return [
        (n, random_table(source, n, depth, many))
        for n in range(2, 6) for depth in range(1, n + 1) for many in (1, 3, 12)
    ]


def great_random_tables():
    """Return (n, table) for up to 60 servers."""
    source = random.Random(30)
    return [
        (n, random_table(source, n, depth, 40))
        for n in (6, 7, 11, 18, 25, 37, 48, 59, 60) for depth in (1, 3, n // 2, n)
    ]


class LevelNumbers(Checks):
    def test_examples(self):
        self.assertEqual(level_numbers(3, ROUND, 1), ((((0,), 1), 1), (((1,), 2), 1), (((2,), 0), 1)))
        self.assertEqual(level_numbers(3, ((0, 1, 2), (1, 0, 2)), 2), ((((0, 1), 2), 2),))

    def test_small_tables_list_by_list(self):
        for n, table in random_tables():
            for size in range(len(table[0])):
                expected = [(edge, many) for edge, many in all_counted(n, table, size) if many > 0]
                self.assertEqual(level_numbers(n, table, size), tuple(expected), (n, table, size))

    def test_great_tables_list_by_list(self):
        for n, table in great_random_tables():
            for size in range(len(table[0])):
                edges = sorted({(tuple(sorted(order[:size])), order[size]) for order in table})
                expected = [((members, server), counted(table, members, server)) for members, server in edges]
                self.assertEqual(level_numbers(n, table, size), tuple(expected), (n, size))

    def test_first_level(self):
        self.assertEqual(level_numbers(4, ((3,), (1,), (3,)), 0), ((((), 1), 1), (((), 3), 2)))

    def test_orders_of_the_set_count_together(self):
        table = ((0, 1, 2), (1, 0, 2), (0, 1, 2), (2, 1, 0), (2, 0, 1))
        self.assertEqual(level_numbers(3, table, 2), ((((0, 1), 2), 3), (((0, 2), 1), 1), (((1, 2), 0), 1)))

    def test_somewhat_beyond(self):
        for size in (3, 4, 70, -1):
            self.assertEqual(level_numbers(3, ROUND, size), ())


class IsLevel(Checks):
    def test_examples(self):
        self.assertIs(is_level(3, ROUND, 0), True)
        self.assertIs(is_level(2, ((0, 1), (1, 0)), 1), True)

    def test_small_tables_list_by_list(self):
        for n, table in random_tables():
            for size in range(len(table[0])):
                numbers = {many for edge, many in all_counted(n, table, size)}
                self.assertIs(is_level(n, table, size), len(numbers) == 1, (n, table, size))

    def test_standard_tables(self):
        for n, depth, count in small_tables():
            table = rule_table(n, depth, count)
            for size in range(depth):
                self.assertIs(is_level(n, table, size), True, (n, depth, count, size))
                self.assertIs(is_level(n, table + table[:1], size), False, (n, depth, count, size))
                self.assertIs(is_level(n, table[:-1], size), False, (n, depth, count, size))

    def test_great_standard_tables(self):
        for n, depth in ((60, 1), (60, 2), (59, 2), (20, 3)):
            table = rule_table(n, depth, least(n, depth))
            for size in range(depth):
                self.assertIs(is_level(n, table, size), True, (n, size))
                self.assertIs(is_level(n, table[1:], size), False, (n, size))
                self.assertIs(is_level(n, table[1:] + table[-1:], size), False, (n, size))

    def test_great_tables_list_by_list(self):
        for n, table in great_random_tables():
            # Forty lists are fewer than the level numbers there, save at the first and last levels.
            for size in range(len(table[0])):
                if size in (0, n - 1):
                    numbers = {many for edge, many in all_counted(n, table, size)}
                    self.assertIs(is_level(n, table, size), len(numbers) == 1, (n, size))
                elif n > 6:
                    self.assertIs(is_level(n, table, size), False, (n, size))

    def test_equal_numbers_with_some_missing(self):
        self.assertIs(is_level(3, ROUND, 1), False)
        self.assertIs(is_level(2, ((0, 1), (0, 1)), 0), False)
        self.assertIs(is_level(3, ((0,), (1,), (0,), (1,)), 0), False)

    def test_no_number_missing_but_unequal(self):
        self.assertIs(is_level(2, ((0,), (1,), (1,)), 0), False)
        self.assertIs(is_level(2, ((1,), (0,), (0,), (1,), (0,)), 0), False)

    def test_level_above_one_that_is_not_level(self):
        table = ((0, 1, 2), (0, 2, 1), (1, 2, 0))
        self.assertEqual([is_level(3, table, size) for size in range(3)], [False, False, True])
        self.assertEqual(even_reach(3, table), 0)

    def test_somewhat_beyond(self):
        for size in (3, 4, 70, -1):
            self.assertIs(is_level(3, ROUND, size), True)


class EvenReach(Checks):
    def test_examples(self):
        self.assertEqual(even_reach(3, ROUND), 1)
        self.assertEqual(even_reach(3, ((0, 1), (1, 2), (2, 0))), 1)
        self.assertEqual(even_reach(2, ((0, 1),)), 0)

    def test_small_tables_list_by_list(self):
        for n, table in random_tables():
            expected = 0
            while expected < len(table[0]) and len({many for edge, many in all_counted(n, table, expected)}) == 1:
                expected += 1
            self.assertEqual(even_reach(n, table), expected, (n, table))

    def test_standard_tables_reach_their_depth(self):
        for n, depth, count in small_tables() + [(7, 7, 420), (10, 10, 2520), (60, 1, 60), (60, 2, 3540)]:
            self.assertEqual(even_reach(n, rule_table(n, depth, count)), depth, (n, depth, count))

    def test_from_nothing_to_the_depth(self):
        for n in range(2, 8):
            for depth in range(1, n + 1):
                self.assertEqual(even_reach(n, (tuple(range(depth)),)), 0)
                for reach in range(1, depth + 1):
                    # Where all sets of n - 1 servers are alike, so are the servers that follow them.
                    expected = depth if reach == n - 1 else reach
                    table = table_that_reaches(n, depth, reach)
                    self.assertEqual(even_reach(n, table), expected, (n, depth, reach))

    def test_great_tables(self):
        for n, depth, reach in ((60, 60, 1), (60, 60, 2), (59, 3, 2), (41, 41, 1), (20, 20, 3)):
            self.assertEqual(even_reach(n, table_that_reaches(n, depth, reach)), reach)
        for n, table in great_random_tables():
            if n > 40:
                self.assertEqual(even_reach(n, table), 0)

    def test_somewhat_beyond(self):
        self.assertEqual(even_reach(3, ()), 0)
        self.assertEqual(even_reach(61, tuple([(server,) for server in range(61)])), 1)


class Interface(Checks):
    def test_arguments_by_name(self):
        self.assert_same_by_name(level_numbers, 3, ROUND, 1)
        self.assert_same_by_name(is_level, 3, ROUND, 0)
        self.assert_same_by_name(even_reach, 3, ROUND)
        self.assertEqual(level_numbers(n=3, table=((0, 1, 2), (1, 0, 2)), size=2), ((((0, 1), 2), 2),))
        self.assertIs(is_level(n=3, table=ROUND, size=1), False)
        self.assertEqual(even_reach(n=3, table=ROUND), 1)

    def test_names_in_their_order_and_file(self):
        self.assert_interface(levels, {
            "level_numbers": ["n", "table", "size"],
            "is_level": ["n", "table", "size"],
            "even_reach": ["n", "table"],
        })


if __name__ == "__main__":
    unittest.main()
