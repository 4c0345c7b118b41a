"""weights.py: points [40] to [45]."""

import itertools
import math
import random
import unittest
from fractions import Fraction

from any_values import not_integers
from checking import Checks
from evenfailover import weights as module
from evenfailover.errors import NotPossible, TooMany
from evenfailover.weights import first_share, is_weighted, least_weighted, level_share, weighted_table
from reference import all_lists, first_live, live_sets, random_table, renamed, rule_table, sets_of


def drawn_weights():
    """Return weights of 2 to 6 servers: small, equal, great and far apart ones."""
    source = random.Random(40)
    found = [(1, 1), (1, 2), (1000, 1), (1000, 999), (7, 7), (1, 1, 2), (1, 2, 3), (5, 5, 5, 5), (1, 1, 1, 1000)]
    for n in range(2, 7):
        found.append((1,) * n)
        found.append(tuple(range(1, n + 1)))
        for most in (2, 3, 10, 1000):
            found.append(tuple([source.randint(1, most) for server in range(n)]))
    return found


def small_weights():
    """Return weights whose tables have at most 5000 lists."""
    return [weights for weights in drawn_weights() if reference_least(weights) <= 5000]


def share_of(weights, live, server):
    return Fraction(weights[server], sum([weights[other] for other in live]))


def subsets(members):
    return [subset for size in range(len(members) + 1) for subset in itertools.combinations(members, size)]


def reference_level_share(weights, members, server):
    """Return a level share by the very words of point [42]."""
    others = [other for other in range(len(weights)) if other not in members]
    return sum([(-1) ** len(subset) * share_of(weights, others + list(subset), server) for subset in subsets(members)])


def edges(n):
    """Return every (members, server) of n servers."""
    return [
        (members, server)
        for size in range(n) for members in sets_of(n, size) for server in range(n) if server not in members
    ]


def reference_least(weights):
    found = [reference_level_share(weights, members, server) for members, server in edges(len(weights))]
    return math.lcm(*[share.denominator for share in found])


def weighted_by_definition(weights, table):
    """Return whether a table is weighted by the very words of point [40]."""
    for live in live_sets(len(weights)):
        firsts = [first_live(order, live, 1)[0] for order in table]
        for server in live:
            if firsts.count(server) != len(table) * share_of(weights, live, server):
                return False
    return True


class Shares(Checks):
    def assert_share(self, found, expected):
        """It is this share, in lowest terms and with integers."""
        self.assertIs(found.__class__, tuple)
        self.assertEqual(found, (expected.numerator, expected.denominator))
        self.assertEqual([part.__class__ for part in found], [int, int])

    def test_examples(self):
        self.assertEqual(first_share((1, 1, 2), (0, 2), 2), (2, 3))
        self.assertEqual(level_share((1, 1, 2), (0, 1), 2), (1, 6))
        self.assertEqual(level_share((1, 2, 3), (2,), 0), (1, 6))

    def test_first_shares(self):
        for weights in drawn_weights():
            for live in live_sets(len(weights)):
                found = [first_share(weights, live, server) for server in live]
                for server, share in zip(live, found):
                    self.assert_share(share, share_of(weights, live, server))
                self.assertEqual(sum([Fraction(*share) for share in found]), 1)

    def test_one_live_server(self):
        for weights in drawn_weights():
            for server in range(len(weights)):
                self.assertEqual(first_share(weights, (server,), server), (1, 1))

    def test_level_shares(self):
        for weights in drawn_weights():
            for members, server in edges(len(weights)):
                expected = reference_level_share(weights, members, server)
                self.assert_share(level_share(weights, members, server), expected)
                self.assertGreater(expected, 0)

    def test_level_shares_at_the_empty_set(self):
        for weights in drawn_weights():
            servers = tuple(range(len(weights)))
            found = [level_share(weights, (), server) for server in servers]
            self.assertEqual(found, [first_share(weights, servers, server) for server in servers])
            self.assertEqual(sum([Fraction(*share) for share in found]), 1)

    def test_as_much_arrives_as_leaves(self):
        for weights in drawn_weights():
            n = len(weights)
            for size in range(1, n):
                for members in sets_of(n, size):
                    arriving = [
                        Fraction(*level_share(weights, tuple([other for other in members if other != last]), last))
                        for last in members
                    ]
                    leaving = [
                        Fraction(*level_share(weights, members, server))
                        for server in range(n) if server not in members
                    ]
                    self.assertEqual(sum(arriving), sum(leaving), (weights, members))

    def test_scaled_weights(self):
        for weights in ((1, 2), (1, 1, 2), (3, 5, 7, 9), (1, 2, 3, 4, 5)):
            for times in (2, 7, 100):
                scaled = tuple([times * weight for weight in weights])
                self.assertEqual(least_weighted(scaled), least_weighted(weights))
                for members, server in edges(len(weights)):
                    self.assertEqual(level_share(scaled, members, server), level_share(weights, members, server))

    def test_renamed_servers(self):
        source = random.Random(42)
        for weights in drawn_weights():
            names = source.sample(range(len(weights)), len(weights))
            other = [0] * len(weights)
            for server, name in enumerate(names):
                other[name] = weights[server]
            self.assertEqual(least_weighted(tuple(other)), least_weighted(weights))
            for members, server in edges(len(weights)):
                moved = tuple(sorted([names[member] for member in members]))
                self.assertEqual(level_share(tuple(other), moved, names[server]), level_share(weights, members, server))

    def test_two_servers(self):
        for one, other in ((1, 1), (1, 2), (6, 4), (1000, 1), (999, 1000)):
            share = Fraction(one, one + other)
            self.assert_share(level_share((one, other), (), 0), share)
            self.assert_share(level_share((one, other), (1,), 0), 1 - share)
            self.assertEqual(least_weighted((one, other)), share.denominator)


class LeastWeighted(Checks):
    def test_examples(self):
        self.assertEqual(least_weighted((1, 1, 2)), 12)
        self.assertEqual(least_weighted((1, 2, 3)), 60)
        self.assertEqual(least_weighted((5, 5, 5, 5)), 12)

    def test_drawn_weights(self):
        for weights in drawn_weights():
            self.assertEqual(least_weighted(weights), reference_least(weights), weights)

    def test_equal_weights(self):
        for n in range(2, 7):
            for weight in (1, 2, 500, 1000):
                self.assertEqual(least_weighted((weight,) * n), math.lcm(*range(1, n + 1)))

    def test_somewhat_beyond(self):
        self.assertEqual(least_weighted((1,) * 7), 420)
        self.assertEqual(least_weighted((1001, 2002)), 3)
        self.assertEqual(least_weighted((9,)), 1)
        # Without weight a server comes last, and equally often before others without weight.
        self.assertEqual(first_share((0, 0, 1), (0, 1), 1), (1, 2))
        self.assertEqual(weighted_table((0, 1), 2), ((1, 0), (1, 0)))
        self.assertIs(is_weighted((0, 1), ((1, 0),)), True)


class WeightedTable(Checks):
    def test_examples(self):
        self.assertEqual(sorted(weighted_table((1, 2), 3)), [(0, 1), (1, 0), (1, 0)])
        self.assert_error(NotPossible, "count", 4, weighted_table, (1, 2), 4)
        self.assert_error(TooMany, "count", 5001, weighted_table, (1, 2), 5001)

    def check(self, weights, count):
        table = weighted_table(weights, count)
        self.assertIs(table.__class__, tuple)
        self.assertEqual(len(table), count)
        for order in table:
            self.assertIs(order.__class__, tuple)
            self.assertEqual(sorted(order), list(range(len(weights))))
        self.assertTrue(weighted_by_definition(weights, table), (weights, count))
        self.assertIs(is_weighted(weights, table), True)
        return table

    def test_live_set_by_live_set(self):
        for weights in small_weights():
            one = least_weighted(weights)
            for times in (1, 2, 5):
                if one * times <= 5000:
                    self.check(weights, one * times)

    def test_at_most_5000_lists(self):
        for weights in small_weights():
            one = least_weighted(weights)
            most = 5000 // one * one
            self.check(weights, most)
            self.assert_error(TooMany, "count", most + one, weighted_table, weights, most + one)
        self.assertEqual(len(self.check((1, 1), 5000)), 5000)
        self.assert_error(TooMany, "count", 5002, weighted_table, (1, 1), 5002)

    def test_counts_of_any_value(self):
        for weights in ((1, 1), (1, 2), (1, 2, 3), (2, 2, 2, 2), (1,) * 6, (997, 991, 983, 977, 971, 967)):
            one = least_weighted(weights)
            near = [0, -1, -one, one - 1, one + 1, one // 2, 3 * one + 1, 10 ** 39 // one * one + 1]
            for count in near + not_integers():
                self.assert_error(NotPossible, "count", count, weighted_table, weights, count)

    def test_not_possible_before_too_many(self):
        for weights in ((1, 1), (1, 2), (1, 2, 3)):
            one = least_weighted(weights)
            for times in (5000, 10 ** 20):
                self.assert_error(TooMany, "count", one * times, weighted_table, weights, one * times)
                self.assert_error(NotPossible, "count", one * times + 1, weighted_table, weights, one * times + 1)

    def test_weights_too_far_apart_for_5000_lists(self):
        weights = (997, 991, 983, 977, 971, 967)
        one = least_weighted(weights)
        self.assertGreater(one, 10 ** 40)
        self.assert_error(TooMany, "count", one, weighted_table, weights, one)

    def test_a_server_taken_out_of_all_lists(self):
        for weights in small_weights():
            if len(weights) > 2:
                table = weighted_table(weights, least_weighted(weights))
                for gone in range(len(weights)):
                    left = [server for server in range(len(weights)) if server != gone]
                    names = {server: number for number, server in enumerate(left)}
                    rest = tuple([tuple([names[server] for server in order if server != gone]) for order in table])
                    others = tuple([weights[server] for server in left])
                    self.assertIs(is_weighted(others, rest), True, (weights, gone))
                    self.assertEqual(len(table) % least_weighted(others), 0)


class IsWeighted(Checks):
    def test_examples(self):
        self.assertIs(is_weighted((1, 2), ((0, 1), (1, 0))), False)
        self.assertIs(is_weighted((1, 2), ((1, 0), (0, 1), (1, 0))), True)

    def test_tables_beside_a_weighted_one(self):
        source = random.Random(45)
        found = {True: 0, False: 0}
        for weights in small_weights():
            table = weighted_table(weights, least_weighted(weights))
            if len(table) > 500:
                continue
            for other in self.beside(source, weights, table):
                expected = weighted_by_definition(weights, other)
                self.assertIs(is_weighted(weights, other), expected, (weights, other))
                found[expected] += 1
        self.assertGreater(found[True], 50)
        self.assertGreater(found[False], 100)

    def beside(self, source, weights, table):
        n = len(weights)
        at = source.randrange(len(table))
        order = table[at]
        found = [tuple(source.sample(table, len(table))), table[::-1], table * 2, table * 3]
        found.append(table[:at] + table[at + 1:] if len(table) > 1 else table)
        found.append(table + (order,))
        found.append(table[:at] + (order[::-1],) + table[at + 1:])
        found.append(table[:at] + (order[:-2] + (order[-1], order[-2]),) + table[at + 1:])
        found.append(renamed(table, source.sample(range(n), n)))
        found.append(random_table(source, n, n, len(table)))
        return found

    def test_other_weights(self):
        for one in small_weights():
            table = weighted_table(one, least_weighted(one))
            for other in small_weights():
                if len(one) == len(other) and len(table) <= 200:
                    self.assertIs(is_weighted(other, table), weighted_by_definition(other, table), (one, other))

    def test_drawn_tables(self):
        source = random.Random(450)
        for weights in small_weights():
            for many in (1, 2, 6, 12):
                table = random_table(source, len(weights), len(weights), many)
                self.assertIs(is_weighted(weights, table), weighted_by_definition(weights, table))

    def test_every_small_table(self):
        found = 0
        for weights, most in (((1, 1), 7), ((1, 2), 7), ((2, 3), 6), ((1, 1, 1), 6), ((1, 1, 2), 5)):
            lists = all_lists(len(weights), len(weights))
            one = least_weighted(weights)
            for many in range(1, most + 1):
                weighted = 0
                for table in itertools.combinations_with_replacement(lists, many):
                    expected = weighted_by_definition(weights, table)
                    self.assertIs(is_weighted(weights, table), expected)
                    weighted += expected
                # A table exists exactly for the multiples of the least number.
                self.assertEqual(weighted > 0, many % one == 0, (weights, many))
                found += weighted
        self.assertGreater(found, 5)

    def test_even_tables_are_weighted_for_equal_weights(self):
        for n in range(2, 7):
            table = rule_table(n, n, math.lcm(*range(1, n + 1)))
            self.assertIs(is_weighted((3,) * n, table), True)
            self.assertIs(is_weighted((3,) * (n - 1) + (4,), table), False)
            self.assertIs(is_weighted((3,) * n, table[1:]), False)


class Interface(Checks):
    def test_arguments_by_name(self):
        self.assert_same_by_name(first_share, (1, 1, 2), (0, 2), 2)
        self.assert_same_by_name(level_share, (1, 1, 2), (0, 1), 2)
        self.assert_same_by_name(least_weighted, (1, 2, 3))
        self.assert_same_by_name(weighted_table, (1, 2), 3)
        self.assert_same_by_name(is_weighted, (1, 2), ((1, 0), (0, 1), (1, 0)))
        self.assertEqual(first_share(weights=(1, 1, 2), live=(0, 2), server=2), (2, 3))
        self.assertEqual(level_share(weights=(1, 1, 2), members=(0, 1), server=2), (1, 6))
        self.assertEqual(least_weighted(weights=(1, 1, 2)), 12)
        self.assertEqual(len(weighted_table(weights=(1, 2), count=3)), 3)
        self.assertIs(is_weighted(weights=(1, 2), table=((0, 1), (1, 0))), False)

    def test_names_in_their_order_and_file(self):
        self.assert_interface(module, {
            "first_share": ["weights", "live", "server"],
            "level_share": ["weights", "members", "server"],
            "least_weighted": ["weights"],
            "weighted_table": ["weights", "count"],
            "is_weighted": ["weights", "table"],
        })


if __name__ == "__main__":
    unittest.main()
