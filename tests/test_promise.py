"""Point [7]: the promises (a) to (e), and of (h) what a cluster is; test_whole.py has the rest."""

import itertools
import random
import unittest

from evenfailover.cluster import Cluster
from evenfailover.counts import copied_to, found_at, held_by_server, held_by_set
from evenfailover.failures import copies, drops
from evenfailover.judging import is_even, shows_uneven, uneven
from evenfailover.levels import even_reach, is_level
from evenfailover.lists import list_at, number_at, numbers_with, place_at
from evenfailover.numbers import edge_divisor, is_possible, least_lists
from evenfailover.tables import holders, loads, server_loads, standard_table
from reference import (
    all_lists, failures_and_factors, live_sets, places, random_table, renamed, rotations, table_that_reaches,
)
from reference import is_even as even_by_definition


def all_tables(n, depth, most):
    """Return all tables of up to so many lists, but for the order of the lists."""
    lists = list(itertools.permutations(range(n), depth))
    return [
        table
        for many in range(1, most + 1) for table in itertools.combinations_with_replacement(lists, many)
    ]


EVERY_TABLE = (
    [(2, table) for table in all_tables(2, 2, 9)]
    + [(3, table) for table in all_tables(3, 2, 7) + all_tables(3, 3, 7)]
    + [(4, table) for table in all_tables(4, 2, 3)]
)


class Criterion(unittest.TestCase):
    def check(self, n, table):
        """The table is even for the failures and factors that its levels say, and for no others."""
        for failures, factor, reach in failures_and_factors(n, len(table[0])):
            expected = even_by_definition(n, table, failures, factor)
            self.assertIs(even_reach(n, table) >= reach, expected, (n, table, failures, factor))
            levels = [is_level(n, table, size) for size in range(reach)]
            self.assertIs(all(levels), expected, (n, table, failures, factor))
            self.assertIs(is_even(n, table, failures, factor), expected, (n, table, failures, factor))
            self.check_witness(n, table, failures, factor, expected)

    def check_witness(self, n, table, failures, factor, even):
        """There is a witness exactly if the table is not even, and its sets hold what it says."""
        thing = uneven(n, table, failures, factor)
        self.assertIs(thing is None, even, (n, table, failures, factor))
        if thing is not None:
            live, fewer, more = thing
            self.assertIs(shows_uneven(n, table, failures, factor, thing), True)
            held = dict(loads(n, table, live, len(fewer)))
            self.assertLess(held[fewer], held[more])
            self.assertGreaterEqual(len(live), n - failures)

    def test_every_small_table(self):
        for n, table in EVERY_TABLE:
            self.check(n, table)

    def test_random_tables(self):
        source = random.Random(7)
        for n in range(2, 6):
            for depth in range(2, n + 1):
                for many in (5, 12, 20):
                    self.check(n, random_table(source, n, depth, many))

    def test_tables_that_are_even_up_to_a_reach(self):
        for n in range(2, 6):
            for depth in range(1, n + 1):
                for reach in range(1, depth + 1):
                    table = table_that_reaches(n, depth, reach)
                    self.check(n, table)
                    self.check(n, table[1:] + table[:1] + table[:1])
                    self.check(n, table[1:] + table[-1:])


class Existence(unittest.TestCase):
    def test_no_small_table_with_another_number_of_lists_is_even(self):
        even = 0
        for n, table in EVERY_TABLE:
            for failures, factor, reach in failures_and_factors(n, len(table[0])):
                self.assertIs(is_even(n, table, failures, factor), even_by_definition(n, table, failures, factor))
                if is_even(n, table, failures, factor):
                    even += 1
                    self.assertTrue(is_possible(n, reach, len(table)), (n, table, failures, factor))
        self.assertGreater(even, 5)

    def test_standard_tables_are_even(self):
        for n in range(2, 6):
            for failures, factor, reach in failures_and_factors(n, n):
                for times in (1, 2, 3):
                    table = standard_table(n, reach, least_lists(n, reach) * times)
                    self.assertTrue(is_even(n, table, failures, factor), (n, failures, factor, times))

    def test_level_numbers_of_great_tables_are_equal(self):
        for n in range(2, 7):
            count = (10 ** 40 - 1) // least_lists(n, n) * least_lists(n, n)
            for depth in range(1, n + 1):
                found = {}
                for order in itertools.permutations(range(n), depth):
                    first, many = numbers_with(n, count, order) or (None, 0)
                    edge = (tuple(sorted(order[:-1])), order[-1])
                    found[edge] = found.get(edge, 0) + many
                self.assertEqual(len(found), edge_divisor(n, depth - 1))
                self.assertEqual(set(found.values()), {count // edge_divisor(n, depth - 1)})


    def test_tables_of_any_make(self):
        source = random.Random(71)
        even = 0
        for n in range(3, 7):
            for depth in range(2, n + 1):
                whole = standard_table(n, depth, least_lists(n, depth))
                for table in [all_lists(n, depth), rotations(n, depth), whole, whole * 2, whole[1:], whole + whole[:1]]:
                    mixed = renamed(table, source.sample(range(n), n))
                    mixed = tuple(source.sample(mixed, len(mixed)))
                    for failures, factor, reach in failures_and_factors(n, depth):
                        if is_even(n, mixed, failures, factor):
                            even += 1
                            self.assertEqual(len(mixed) % least_lists(n, reach), 0)
        self.assertGreater(even, 100)

    def test_two_even_tables_together_are_even(self):
        for n in range(3, 6):
            one = standard_table(n, n, least_lists(n, n))
            other = renamed(one, list(range(n))[::-1])
            for failures, factor, reach in failures_and_factors(n, n):
                self.assertIs(is_even(n, one + other, failures, factor), True)
                self.assertIs(is_even(n, one + other[1:], failures, factor), False)


class Numbers(unittest.TestCase):
    def test_lists_with_the_same_beginning_are_consecutive(self):
        for n in range(2, 6):
            table = standard_table(n, n, least_lists(n, n) * 2)
            for depth in range(1, n + 1):
                groups = itertools.groupby(enumerate(table), lambda row: row[1][:depth])
                seen = set()
                for beginning, rows in groups:
                    numbers = [number for number, order in rows]
                    self.assertNotIn(beginning, seen)
                    seen.add(beginning)
                    self.assertEqual(numbers_with(n, len(table), beginning), (numbers[0], len(numbers)))

    def test_there_and_back(self):
        for n in range(2, 61):
            count = least_lists(n, n) * (10 ** 14 + 31)
            for number in (0, 1, count // 2, count // 3, count - 1):
                order, found = places(n, n, count, number)
                self.assertEqual(list_at(n, n, count, number), order)
                members, rest = place_at(n, n, count, number)
                self.assertEqual((members, rest), found[-1])
                self.assertEqual(number_at(n, count, members, rest), number)
                first, many = numbers_with(n, count, order)
                self.assertTrue(first <= number < first + many)


class Counts(unittest.TestCase):
    def test_formulas_agree_with_the_tables(self):
        for n in range(2, 7):
            table = standard_table(n, n, least_lists(n, n))
            for live in live_sets(n):
                for factor in range(1, len(live) + 1):
                    self.check(n, table, live, factor)

    def check(self, n, table, live, factor):
        count, alive = len(table), len(live)
        by_set = {many for members, many in loads(n, table, live, factor)}
        self.assertEqual(by_set, {held_by_set(n, count, alive, factor)})
        by_server = {many for server, many in server_loads(n, table, live, factor)}
        self.assertEqual(by_server, {held_by_server(n, count, alive, factor)})
        indexes = [order.index(holders(order, live, factor)[-1]) for order in table]
        for index in range(n):
            self.assertEqual(indexes.count(index), found_at(n, count, alive, factor, index))
        if factor < alive:
            for failed in live:
                by_copy = {many for server, many in copies(n, table, live, factor, failed)}
                self.assertEqual(by_copy, {copied_to(n, count, alive, factor)})


class Failures(unittest.TestCase):
    def test_only_the_replicas_of_the_failed_server_are_copied(self):
        for n in range(2, 7):
            one = standard_table(n, n, least_lists(n, n))
            for table in (one, all_lists(n, n) if n < 6 else one * 2):
                for live in live_sets(n):
                    for factor in range(1, len(live)):
                        self.check(n, table, live, factor)

    def check(self, n, table, live, factor):
        alive = len(live)
        for failed in live[:2] + live[-1:]:
            received = copies(n, table, live, factor, failed)
            each = len(table) * factor // (alive * (alive - 1))
            self.assertEqual(received, tuple([(server, each) for server in live if server != failed]))
            total = sum([many for server, many in received])
            self.assertEqual(total * alive, len(table) * factor)
            # No placement copies fewer: whatever the failed server held needs a new place.
            self.assertEqual(total, dict(server_loads(n, table, live, factor))[failed])
            stay = tuple([server for server in live if server != failed])
            self.assertEqual(drops(n, table, stay, factor, failed), received)


class Clusters(unittest.TestCase):
    def test_who_holds_a_shard_depends_on_the_live_servers_only(self):
        source = random.Random(78)
        for n in range(2, 7):
            for failures in range(1, n):
                for factor in range(1, n + 1):
                    count = least_lists(n, min(n, failures + factor))
                    self.check(source, n, failures, factor, count)

    def check(self, source, n, failures, factor, count):
        cluster = Cluster(n, failures, factor, count)
        table = standard_table(n, min(n, failures + factor), count)
        for step in range(12):
            server = source.randrange(n)
            if server not in cluster.live():
                cluster.recover(server)
            elif len(cluster) > n - failures:
                cluster.fail(server)
            live = cluster.live()
            owners = [cluster.owners(shard) for shard in range(count)]
            self.assertEqual(owners, [holders(order, live, factor) for order in table])
            found = tuple([(server, cluster.load(server)) for server in live])
            self.assertEqual(found, server_loads(n, table, live, factor))
            fresh = Cluster(n, failures, factor, count)
            for dead in range(n):
                if dead not in live:
                    fresh.fail(dead)
            self.assertEqual(cluster, fresh)
            self.assertEqual(owners, [fresh.owners(shard) for shard in range(count)])


if __name__ == "__main__":
    unittest.main()
