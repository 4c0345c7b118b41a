"""tables.py: points [4] and [21] to [25]."""

import copy
import itertools
import random
import unittest

from any_values import nested, not_integers
from checking import Checks
from evenfailover import tables
from evenfailover.errors import NotPossible, TooMany, TooShort
from evenfailover.tables import holders, is_table, loads, server_loads, standard_table
from reference import first_live, least, live_sets, random_table, rule_table, small_tables


def random_tables():
    """Return (n, depth, table) for every depth of 2 to 5 servers, with a few lists each."""
    source = random.Random(24)
    return [
        (n, depth, random_table(source, n, depth, source.randrange(1, 9)))
        for n in range(2, 6) for depth in range(1, n + 1) for trial in range(3)
    ]


def first_too_short(table, live, factor):
    """Return the first list with too few live servers, or None."""
    wanted = min(factor, len(live))
    for order in table:
        if len(first_live(order, live, wanted)) < wanted:
            return order
    return None


class IsTable(Checks):
    def assert_table(self, expected, n, depth, thing):
        before = repr(copy.deepcopy(thing))
        self.assertIs(is_table(n, depth, thing), expected, (n, depth, thing))
        self.assertEqual(repr(thing), before)

    def test_examples(self):
        self.assert_table(False, 3, 2, ((0, 1), (1, 1)))
        self.assert_table(True, 4, 3, ((0, 1, 2), (3, 1, 0)))
        self.assert_table(False, 4, 3, [(0, 1, 2)])

    def test_tables(self):
        for n, depth, table in random_tables():
            for asked in range(1, n + 1):
                self.assert_table(asked == depth, n, asked, table)
            self.assert_table(True, n, depth, table + table)

    def test_great_tables(self):
        source = random.Random(21)
        for n in (13, 59, 60):
            for depth in (1, 2, n - 1, n):
                table = random_table(source, n, depth, 40)
                self.assert_table(True, n, depth, table)
                self.assert_table(False, n - 1, depth, table + (tuple(range(n - 1, n - 1 - depth, -1)),))

    def test_every_small_list(self):
        for depth in range(1, 4):
            for order in itertools.product(range(-1, 4), repeat=depth):
                expected = len(set(order)) == depth and min(order) >= 0 and max(order) < 3
                self.assert_table(expected, 3, depth, (order,))
                self.assert_table(expected, 3, depth, (tuple(range(depth)), order))

    def test_one_server_changed(self):
        for n, depth, table in random_tables():
            for number, index in itertools.product(range(len(table)), range(depth)):
                order = table[number]
                others = [order[other] for other in range(depth) if other != index]
                for thing in [-1, n, n + 1, 10 ** 40, -(10 ** 40)] + others + not_integers():
                    changed = order[:index] + (thing,) + order[index + 1:]
                    self.assert_table(False, n, depth, table[:number] + (changed,) + table[number + 1:])

    def test_bools_in_the_place_of_equal_servers(self):
        self.assert_table(True, 4, 2, ((0, 1), (1, 0)))
        for order in ((0, True), (False, 1), (False, True)):
            self.assert_table(False, 4, 2, ((0, 1), order))
            self.assert_table(False, 4, 2, (order, (1, 0)))
        self.assert_table(False, 4, 1, ((True,),))
        self.assert_table(False, 4, 1, ((False,),))

    def test_one_list_changed(self):
        for n, depth, table in random_tables():
            for number, order in enumerate(table):
                things = [list(order), order[:-1], order + order[:1], order + (n,), (), (order,), [order],
                          {server: True for server in order}, dict(enumerate(order)), order[0]]
                for thing in things + not_integers():
                    if thing in ((0,), (1, 2)) and len(thing) == depth:
                        continue  # This one may be a list.
                    self.assert_table(False, n, depth, table[:number] + (thing,) + table[number + 1:])
                    self.assert_table(False, n, depth, table[:number] + (thing,) + table[number:])

    def test_whole_value_changed(self):
        for n, depth, table in random_tables():
            things = [list(table), [list(order) for order in table], (table,), [table], table[0],
                      tuple([list(order) for order in table]), dict(enumerate(table)),
                      {order: True for order in table}, repr(table), (), [], ((),)]
            for thing in things:
                self.assert_table(False, n, depth, thing)

    def test_values_of_every_kind(self):
        for depth in (1, 3, 4):
            for thing in [0, 1, -1, 10 ** 40] + not_integers() + [nested(level) for level in range(21)]:
                self.assert_table(False, 4, depth, thing)

    def test_empty(self):
        for depth in range(1, 5):
            self.assert_table(False, 4, depth, ())
            self.assert_table(False, 4, depth, ((),))


class StandardTable(Checks):
    def test_examples(self):
        self.assertEqual(standard_table(3, 2, 6), ((0, 1), (0, 2), (1, 0), (1, 2), (2, 0), (2, 1)))
        self.assertEqual(standard_table(2, 2, 4), ((0, 1), (0, 1), (1, 0), (1, 0)))
        self.assert_error(NotPossible, "count", 4, standard_table, 3, 3, 4)
        self.assert_error(TooMany, "count", 5002, standard_table, 2, 1, 5002)
        self.assert_error(TooMany, "count", 5001, standard_table, 3, 1, 5001)

    def test_all_lists_in_order(self):
        for n, depth, count in small_tables() + [(7, 7, 420), (10, 10, 2520), (60, 1, 60), (60, 2, 3540)]:
            table = standard_table(n, depth, count)
            self.assertEqual(table, rule_table(n, depth, count), (n, depth, count))
            self.assertIs(is_table(n, depth, table), True)
            self.assertEqual(table, tuple(sorted(table)))

    def test_five_thousand_and_the_next(self):
        for n, depth, most in ((2, 1, 5000), (2, 2, 5000), (5, 1, 5000), (4, 1, 5000), (8, 1, 5000),
                               (3, 3, 4998), (4, 4, 4992), (6, 6, 4980), (10, 10, 2520), (60, 2, 3540)):
            self.assertEqual(len(standard_table(n, depth, most)), most)
            above = most + least(n, depth)
            self.assertGreater(above, 5000)
            self.assert_error(TooMany, "count", above, standard_table, n, depth, above)

    def test_great_counts(self):
        for n, depth in ((2, 1), (4, 4), (60, 60)):
            count = (10 ** 40 - 1) // least(n, depth) * least(n, depth)
            self.assert_error(TooMany, "count", count, standard_table, n, depth, count)
        self.assert_error(TooMany, "count", least(60, 60), standard_table, 60, 60, least(60, 60))

    def test_not_possible_before_too_many(self):
        for n, depth, count in ((2, 1, 5001), (3, 3, 5002), (4, 2, 5008), (60, 2, 5000), (4, 4, 10 ** 39 + 1)):
            self.assert_error(NotPossible, "count", count, standard_table, n, depth, count)

    def test_counts_that_are_not_possible(self):
        for n, depth in ((2, 1), (3, 3), (4, 2), (60, 60)):
            one = least(n, depth)
            for count in [0, -1, -one, one - 1, one + 1] + not_integers():
                self.assert_error(NotPossible, "count", count, standard_table, n, depth, count)

    def test_depth_decides_whether_a_count_is_possible(self):
        self.assertEqual(standard_table(4, 1, 4), ((0,), (1,), (2,), (3,)))
        self.assert_error(NotPossible, "count", 4, standard_table, 4, 2, 4)
        self.assertEqual(len(standard_table(5, 2, 20)), 20)
        self.assert_error(NotPossible, "count", 20, standard_table, 5, 3, 20)

    def test_somewhat_beyond(self):
        self.assertEqual(standard_table(61, 1, 61), tuple([(server,) for server in range(61)]))
        self.assertEqual(standard_table(4, 0, 3), ((), (), ()))
        self.assert_error(NotPossible, "count", 12, standard_table, 4, 5, 12)


class Holders(Checks):
    def test_examples(self):
        self.assertEqual(holders((0, 1, 3, 2), (1, 2, 3), 2), (1, 3))
        self.assertEqual(holders((2, 0, 1), (0, 2), 3), (2, 0))
        self.assert_error(TooShort, "order", (2, 0), holders, (2, 0), (1,), 1)

    def test_all_small_lists(self):
        for n in range(2, 6):
            for depth in range(1, n + 1):
                for order in itertools.permutations(range(n), depth):
                    for live in live_sets(n):
                        for factor in range(1, n + 1):
                            self.check(order, live, factor)

    def check(self, order, live, factor):
        if first_too_short((order,), live, factor) is None:
            expected = first_live(order, live, min(factor, len(live)))
            self.assertEqual(holders(order, live, factor), expected, (order, live, factor))
        else:
            self.assert_error(TooShort, "order", order, holders, order, live, factor)

    def test_great_lists(self):
        source = random.Random(23)
        for n in (17, 59, 60):
            for trial in range(60):
                order = tuple(source.sample(range(n), source.randrange(1, n + 1)))
                live = tuple(sorted(source.sample(range(n), source.randrange(1, n + 1))))
                self.check(order, live, source.randrange(1, n + 1))
                self.check(order, live, 1)

    def test_somewhat_beyond(self):
        self.assertEqual(holders((2, 0, 1), (0, 1, 2), 9), (2, 0, 1))
        self.assertEqual(holders((2, 0, 1), (0, 1, 2), 0), ())
        self.assertEqual(holders((2, 0, 1), (), 2), ())


class Loads(Checks):
    def test_examples(self):
        table = ((0, 1, 2), (1, 2, 0), (2, 0, 1))
        self.assertEqual(loads(3, table, (0, 1), 1), (((0,), 2), ((1,), 1)))
        self.assertEqual(
            loads(3, standard_table(3, 2, 6), (0, 1, 2), 2), (((0, 1), 2), ((0, 2), 2), ((1, 2), 2))
        )
        self.assertEqual(loads(3, ((0, 1),), (0, 1, 2), 1), (((0,), 1), ((1,), 0), ((2,), 0)))

    def check(self, n, table, live, factor):
        short = first_too_short(table, live, factor)
        if short is not None:
            self.assert_error(TooShort, "order", short, loads, n, table, live, factor)
            return
        held = [tuple(sorted(first_live(order, live, factor))) for order in table]
        sets = sorted(itertools.combinations(live, factor))
        expected = tuple([(members, held.count(members)) for members in sets])
        self.assertEqual(loads(n, table, live, factor), expected, (n, table, live, factor))

    def test_all_live_sets_and_factors(self):
        for n, depth, table in random_tables():
            for live in live_sets(n):
                for factor in range(1, len(live) + 1):
                    self.check(n, table, live, factor)

    def test_great_tables(self):
        source = random.Random(25)
        for n, alive, factor in ((60, 60, 1), (60, 60, 2), (60, 31, 3), (60, 60, 58), (60, 60, 60), (14, 14, 7)):
            live = tuple(sorted(source.sample(range(n), alive)))
            self.check(n, random_table(source, n, n, 30), live, factor)

    def test_first_list_that_is_too_short(self):
        table = ((0, 1), (1, 2), (2, 3), (3, 0), (2, 3))
        self.assert_error(TooShort, "order", table[2], loads, 4, table, (0, 1), 1)
        self.assert_error(TooShort, "order", table[1], loads, 4, table, (0, 3), 1)
        self.assert_error(TooShort, "order", table[0], loads, 4, table, (1, 2, 3), 2)

    def test_somewhat_beyond(self):
        table = ((0, 1, 2), (1, 2, 0))
        self.assertEqual(loads(3, table, (0, 1), 3), ())
        self.assertEqual(loads(3, table, (0, 1), 0), (((), 2),))
        self.assertEqual(len(loads(60, (tuple(range(60)),), tuple(range(60)), 3)), 34220)


class ServerLoads(Checks):
    def test_examples(self):
        table = ((0, 1, 2), (1, 2, 0), (2, 0, 1))
        self.assertEqual(server_loads(3, table, (0, 1), 2), ((0, 3), (1, 3)))
        self.assertEqual(server_loads(3, ((0, 1), (0, 2)), (0, 1, 2), 2), ((0, 2), (1, 1), (2, 1)))

    def check(self, n, table, live, factor):
        short = first_too_short(table, live, factor)
        if short is not None:
            self.assert_error(TooShort, "order", short, server_loads, n, table, live, factor)
            return
        held = [first_live(order, live, factor) for order in table]
        expected = tuple([(server, sum([server in found for found in held])) for server in live])
        self.assertEqual(server_loads(n, table, live, factor), expected, (n, table, live, factor))

    def test_all_live_sets_and_factors(self):
        for n, depth, table in random_tables():
            for live in live_sets(n):
                for factor in range(1, n + 1):
                    self.check(n, table, live, factor)

    def test_great_tables(self):
        source = random.Random(26)
        for n in (31, 59, 60):
            for depth in (n - 3, n):
                table = random_table(source, n, depth, 30)
                for alive in (1, 5, n - 1, n):
                    live = tuple(sorted(source.sample(range(n), alive)))
                    for factor in (1, 3, n - 1, n):
                        self.check(n, table, live, factor)

    def test_servers_that_hold_nothing(self):
        self.assertEqual(server_loads(4, ((1, 0),), (0, 1, 3), 1), ((0, 0), (1, 1), (3, 0)))

    def test_first_list_that_is_too_short(self):
        table = ((0, 1), (1, 2), (2, 3), (3, 0), (2, 3))
        self.assert_error(TooShort, "order", table[2], server_loads, 4, table, (0, 1), 1)
        self.assert_error(TooShort, "order", table[1], server_loads, 4, table, (0, 1), 4)

    def test_somewhat_beyond(self):
        self.assertEqual(server_loads(2, ((0, 1),), (0, 1), 7), ((0, 1), (1, 1)))
        self.assertEqual(server_loads(2, ((0, 1),), (0, 1), 0), ((0, 0), (1, 0)))


class Interface(Checks):
    def test_arguments_by_name(self):
        table = ((0, 1, 2), (1, 2, 0), (2, 0, 1))
        self.assert_same_by_name(is_table, 3, 3, table)
        self.assert_same_by_name(standard_table, 3, 2, 6)
        self.assert_same_by_name(holders, (0, 1, 3, 2), (1, 2, 3), 2)
        self.assert_same_by_name(loads, 3, table, (0, 1), 1)
        self.assert_same_by_name(server_loads, 3, table, (0, 1), 2)
        self.assertIs(is_table(n=3, depth=2, thing=((0, 1), (1, 1))), False)
        self.assertEqual(standard_table(n=2, depth=2, count=4), ((0, 1), (0, 1), (1, 0), (1, 0)))
        self.assertEqual(holders(order=(0, 1, 3, 2), live=(1, 2, 3), factor=2), (1, 3))
        self.assertEqual(loads(n=3, table=table, live=(0, 1), factor=1), (((0,), 2), ((1,), 1)))
        self.assertEqual(server_loads(n=3, table=table, live=(0, 1), factor=2), ((0, 3), (1, 3)))

    def test_names_in_their_order_and_file(self):
        self.assert_interface(tables, {
            "is_table": ["n", "depth", "thing"],
            "standard_table": ["n", "depth", "count"],
            "holders": ["order", "live", "factor"],
            "loads": ["n", "table", "live", "factor"],
            "server_loads": ["n", "table", "live", "factor"],
        })


if __name__ == "__main__":
    unittest.main()
