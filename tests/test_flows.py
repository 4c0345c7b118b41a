"""flows.py: points [46] to [49]."""

import copy
import itertools
import random
import unittest

from any_values import any_values
from checking import Checks
from evenfailover import flows
from evenfailover.errors import TooMany, Unbalanced
from evenfailover.flows import shows_table, table_from, unbalanced
from reference import all_level_numbers, first_unbalanced, least, random_table, rule_table

BOTH = {((), 1): 2, ((1,), 0): 2}


def drawn_tables():
    """Return (n, table) of 2 to 60 servers and every kind of depth."""
    source = random.Random(46)
    found = []
    for n in (2, 2, 3, 3, 4, 4, 5, 5, 6, 6, 7, 9, 13, 20, 31, 45, 59, 60):
        for depth in sorted({1, 2, (n + 1) // 2, n - 1, n}):
            for many in (1, 2, 5, 12, 40):
                found.append((n, random_table(source, n, depth, many)))
    return found


def in_another_order(source, counts):
    """Return the same counts with their keys in another order."""
    keys = list(counts)
    source.shuffle(keys)
    return {key: counts[key] for key in keys}


def random_edge(source, n, depth):
    """Return any (members, server) below a depth."""
    size = source.randrange(depth)
    servers = source.sample(range(n), size + 1)
    return tuple(sorted(servers[:-1])), servers[-1]


def with_zeros(source, n, depth, counts):
    """Return the same counts with entries of 0 for keys that were missing."""
    found = dict(counts)
    for number in range(10):
        found.setdefault(random_edge(source, n, depth), 0)
    return in_another_order(source, found)


class TableFrom(Checks):
    def check(self, n, depth, counts):
        """The counts come from a table, which is returned and has these level numbers."""
        before = list(counts.items())
        self.assertIsNone(unbalanced(n, depth, counts))
        table = table_from(n, depth, counts)
        self.assertIs(table.__class__, tuple)
        for order in table:
            self.assertIs(order.__class__, tuple)
            self.assertEqual(len(order), depth)
            self.assertEqual(len(set(order)), depth)
        wanted = {edge: many for edge, many in counts.items() if many > 0}
        self.assertEqual(all_level_numbers(table), wanted)
        self.assertIs(shows_table(n, depth, counts, table), True)
        self.assertEqual(list(counts.items()), before)
        return table

    def test_level_numbers_of_drawn_tables(self):
        source = random.Random(48)
        for n, table in drawn_tables():
            depth, counts = len(table[0]), all_level_numbers(table)
            found = self.check(n, depth, counts)
            self.assertEqual(len(found), len(table))
            self.check(n, depth, in_another_order(source, counts))
            self.check(n, depth, with_zeros(source, n, depth, counts))

    def test_added_up_and_multiplied(self):
        source = random.Random(49)
        for n, table in drawn_tables():
            depth = len(table[0])
            other = all_level_numbers(random_table(source, n, depth, 9))
            both = all_level_numbers(table)
            for edge, many in other.items():
                both[edge] = both.get(edge, 0) + many
            self.assertEqual(len(self.check(n, depth, both)), len(table) + 9)
            times = {edge: 7 * many for edge, many in both.items()}
            self.assertEqual(len(self.check(n, depth, times)), 7 * (len(table) + 9))

    def test_all_small_counts(self):
        # Three servers, depth 2: every choice of entries up to 2.
        edges = [((), 0), ((), 1), ((), 2), ((0,), 1), ((0,), 2), ((1,), 0), ((1,), 2), ((2,), 0), ((2,), 1)]
        balanced = 0
        for entries in itertools.product(range(2), repeat=9):
            counts = {edge: many for edge, many in zip(edges, entries) if many or sum(entries) % 2}
            expected = first_unbalanced(2, counts)
            self.assertEqual(unbalanced(3, 2, counts), expected, counts)
            if expected is None:
                balanced += 1
                self.check(3, 2, counts)
            else:
                self.assert_raises_quickly(Unbalanced, "members", expected, table_from, 3, 2, counts)
        self.assertEqual(balanced, 26)

    def test_standard_tables(self):
        for n in range(2, 7):
            table = rule_table(n, n, least(n, n))
            self.check(n, n, all_level_numbers(table))

    def test_equal_level_numbers(self):
        for n in range(2, 7):
            counts = {}
            for size in range(n):
                for members in itertools.combinations(range(n), size):
                    for server in set(range(n)) - set(members):
                        counts[(members, server)] = least(n, n) // self.edges(n, size)
            self.assertEqual(len(self.check(n, n, counts)), least(n, n))

    def edges(self, n, size):
        return n * len(list(itertools.combinations(range(n - 1), size)))

    def test_examples(self):
        self.assertEqual(table_from(2, 2, BOTH), ((1, 0), (1, 0)))
        self.assertEqual(sorted(table_from(3, 1, {((), 0): 2, ((), 2): 1})), [(0,), (0,), (2,)])
        self.assert_error(Unbalanced, "members", (0,), table_from, 3, 2, {((), 0): 1})

    def test_sets_of_the_size_of_the_depth_are_not_looked_at(self):
        table = ((0, 1, 2), (1, 0, 3), (2, 3, 1))
        counts = all_level_numbers(table)
        shorter = {edge: many for edge, many in counts.items() if len(edge[0]) < 2}
        self.check(4, 2, shorter)
        # Beyond the limit: entries at the depth and above it tell nothing.
        self.assertIsNone(unbalanced(4, 2, counts))
        self.assertEqual(all_level_numbers(table_from(4, 2, counts)), shorter)
        self.assertIs(shows_table(4, 2, counts, ((0, 1), (1, 0), (2, 3))), True)

    def test_too_many(self):
        self.assertEqual(len(table_from(2, 1, {((), 0): 2500, ((), 1): 2500})), 5000)
        for many in (2501, 5000, 10 ** 40 - 1):
            counts = {((), 0): 2500, ((), 1): many}
            self.assert_error(TooMany, "count", 2500 + many, table_from, 2, 1, counts)
        counts = {edge: 1251 * many for edge, many in all_level_numbers(rule_table(4, 4, 12)).items()}
        self.assert_error(TooMany, "count", 15012, table_from, 4, 4, counts)

    def test_most_lists(self):
        source = random.Random(50)
        for n, depth in ((60, 3), (12, 12), (60, 20)):
            table = random_table(source, n, depth, 5000)
            self.assertEqual(len(self.check(n, depth, all_level_numbers(table))), 5000)

    def test_unbalanced_before_too_many(self):
        counts = {((), 0): 6000, ((0,), 1): 5999}
        self.assert_error(Unbalanced, "members", (0,), table_from, 2, 2, counts)
        counts[((0,), 1)] = 6000
        self.assert_error(TooMany, "count", 6000, table_from, 2, 2, counts)

    def test_somewhat_beyond(self):
        self.assertEqual(unbalanced(61, 1, {((), 60): 1}), None)
        self.assertEqual(table_from(61, 1, {((), 60): 1}), ((60,),))
        self.assertEqual(unbalanced(2, 3, {((), 0): 1, ((0,), 1): 1}), (0, 1))
        self.assertEqual(table_from(2, 1, {((), 0): 1, ((), 1): -1}), ((0,),))


class UnbalancedCounts(Checks):
    def test_examples(self):
        self.assertEqual(unbalanced(2, 2, {((), 0): 1, ((0,), 1): 2}), (0,))
        self.assertEqual(unbalanced(3, 2, {}), ())
        counts = {((), 1): 2, ((1,), 0): 1, ((1,), 2): 1, ((0, 1), 2): 1, ((1, 2), 0): 1}
        self.assertIsNone(unbalanced(3, 3, counts))

    def test_nothing_leaves_the_empty_set(self):
        for counts in ({}, {((), 0): 0}, {((0,), 1): 1}, {((), 0): 0, ((1, 2), 0): 5, ((), 2): 0}):
            self.assertEqual(unbalanced(3, 3, counts), ())
            self.assert_error(Unbalanced, "members", (), table_from, 3, 3, counts)

    def test_one_entry_changed(self):
        source = random.Random(47)
        wrong = 0
        for n, table in drawn_tables():
            depth, counts = len(table[0]), all_level_numbers(table)
            for changed in self.changes(source, n, depth, counts):
                expected = first_unbalanced(depth, changed)
                before = dict(changed)
                self.assertEqual(unbalanced(n, depth, changed), expected, (n, depth, changed))
                if expected is not None:
                    wrong += 1
                    self.assert_raises_quickly(Unbalanced, "members", expected, table_from, n, depth, changed)
                    self.assertIs(shows_table(n, depth, changed, table), False)
                self.assertEqual(changed, before)
        self.assertGreater(wrong, 3000)

    def changes(self, source, n, depth, counts):
        """Return counts with one entry more, less, left out, new, or two such changes."""
        found = []
        for number in range(6 if n < 10 else 2):
            edge = source.choice(sorted(counts))
            new = random_edge(source, n, depth)
            found.append({**counts, edge: counts[edge] + 1})
            found.append({**counts, edge: counts[edge] - 1})
            found.append({other: many for other, many in counts.items() if other != edge})
            found.append({**counts, new: counts.get(new, 0) + 1})
            found.append({**counts, edge: counts[edge] + 1, new: counts.get(new, 0) + 1})
        return [in_another_order(source, changed) for changed in found]

    def test_smaller_sets_come_first(self):
        counts = {((), 2): 1, ((0, 1), 2): 1, ((0,), 3): 4}
        self.assertEqual(unbalanced(4, 4, counts), (0,))
        counts = {((), 2): 1, ((2,), 3): 1, ((2, 3), 1): 1, ((0, 3), 1): 4, ((0, 1), 2): 1}
        self.assertEqual(unbalanced(4, 4, counts), (0, 1))

    def test_sets_ascend(self):
        for one, other in (((0,), (1,)), ((2,), (10,)), ((9,), (11,))):
            counts = {((), 20): 1, ((20,), 21): 1, (one, 30): 1, (other, 30): 1}
            self.assertEqual(unbalanced(60, 2, in_another_order(random.Random(1), counts)), one)

    def test_great_entries(self):
        great = 10 ** 40 - 1
        self.assertIsNone(unbalanced(2, 2, {((), 1): great, ((1,), 0): great}))
        self.assertEqual(unbalanced(2, 2, {((), 1): great, ((1,), 0): great - 1}), (1,))


class ShowsTable(Checks):
    def test_examples(self):
        self.assertIs(shows_table(2, 2, BOTH, ((1, 0), (0, 1))), False)
        self.assertIs(shows_table(3, 1, {((), 0): 1}, ((0,),)), True)

    def test_tables_with_the_same_level_numbers(self):
        source = random.Random(51)
        other_tables = 0
        for n, table in drawn_tables():
            depth, counts = len(table[0]), all_level_numbers(table)
            for other in (tuple(source.sample(table, len(table))), self.crossed(source, table)):
                self.assertEqual(all_level_numbers(other), counts)
                self.assertIs(shows_table(n, depth, counts, other), True)
                other_tables += sorted(other) != sorted(table)
            self.assertIs(shows_table(n, depth, with_zeros(source, n, depth, counts), table), True)
        self.assertGreater(other_tables, 30)

    def crossed(self, source, table):
        """Return a table with the ends of lists exchanged whose beginnings have the same servers."""
        found = list(table)
        for one, other in itertools.combinations(range(len(found)), 2):
            for size in range(1, len(found[0])):
                if set(found[one][:size]) == set(found[other][:size]) and source.random() < 0.5:
                    first, second = found[one], found[other]
                    found[one], found[other] = first[:size] + second[size:], second[:size] + first[size:]
        return tuple(found)

    def test_tables_that_are_changed(self):
        source = random.Random(52)
        same = 0
        for n, table in drawn_tables():
            depth, counts = len(table[0]), all_level_numbers(table)
            for other in self.changed(source, n, table):
                expected = self.is_table(n, depth, other) and all_level_numbers(other) == counts
                before = repr(other)
                self.assertIs(shows_table(n, depth, counts, other), expected, (n, depth, other))
                self.assertEqual(repr(other), before)
                same += expected
        self.assertGreater(same, 10)

    def is_table(self, n, depth, thing):
        if thing.__class__ is not tuple or not thing:
            return False
        for order in thing:
            if order.__class__ is not tuple or len(order) != depth:
                return False
            if any(server.__class__ is not int or not 0 <= server < n for server in order):
                return False
            if len(set(order)) != depth:
                return False
        return True

    def changed(self, source, n, table):
        """Return values that differ a little from a table, at any depth of nesting."""
        at = source.randrange(len(table))
        order = table[at]
        place = source.randrange(len(order))
        found = [
            table[:at] + table[at + 1:], table + (order,), table + table, list(table), (table,), table[at],
            table[:at] + (list(order),) + table[at + 1:], (), None,
        ]
        for server in (source.randrange(n), -1, n, True, False, None, "0", (0,), [0], order[place], order[0]):
            other = order[:place] + (server,) + order[place + 1:]
            found.append(table[:at] + (other,) + table[at + 1:])
        for other in (order[:-1], order + (0,), order[::-1], (), tuple(source.sample(range(n), len(order)))):
            found.append(table[:at] + (other,) + table[at + 1:])
        return found

    def test_any_value(self):
        one = {((), 0): 1, ((0,), 1): 1}
        for counts in ({}, BOTH, one):
            for thing in any_values():
                self.assertIs(shows_table(2, 2, counts, thing), False, thing)
                # By its text: (True, False) equals (1, 0).
                expected = counts == one and repr(thing) == "(0, 1)"
                self.assertIs(shows_table(2, 2, counts, (thing,)), expected, thing)
                expected = counts == BOTH and repr(thing) == "(1, 0)"
                self.assertIs(shows_table(2, 2, counts, ((1, 0), thing)), expected, thing)

    def test_counts_that_are_not_balanced(self):
        self.assertIs(shows_table(2, 2, {}, ((0, 1),)), False)
        self.assertIs(shows_table(2, 2, {((), 0): 1}, ((0, 1),)), False)
        self.assertIs(shows_table(2, 2, {((), 0): 1, ((0,), 1): 2}, ((0, 1),)), False)

    def test_entries_of_zero(self):
        self.assertIs(shows_table(2, 2, {**BOTH, ((), 0): 0, ((0,), 1): 0}, ((1, 0), (1, 0))), True)
        self.assertIs(shows_table(2, 2, {((), 1): 0, ((1,), 0): 0}, ((1, 0),)), False)

    def test_value_stays_as_it_was(self):
        for thing in any_values():
            before = copy.deepcopy(thing)
            shows_table(2, 2, BOTH, thing)
            self.assertEqual(repr(thing), repr(before))


class Interface(Checks):
    def test_arguments_by_name(self):
        self.assert_same_by_name(unbalanced, 2, 2, {((), 0): 1, ((0,), 1): 2})
        self.assert_same_by_name(table_from, 2, 2, BOTH)
        self.assert_same_by_name(shows_table, 2, 2, BOTH, ((1, 0), (1, 0)))
        self.assertEqual(unbalanced(n=2, depth=2, counts={((), 0): 1}), (0,))
        self.assertEqual(table_from(n=2, depth=2, counts=BOTH), ((1, 0), (1, 0)))
        self.assertIs(shows_table(n=2, depth=2, counts=BOTH, thing=((1, 0), (1, 0))), True)

    def test_names_in_their_order_and_file(self):
        self.assert_interface(flows, {
            "unbalanced": ["n", "depth", "counts"],
            "table_from": ["n", "depth", "counts"],
            "shows_table": ["n", "depth", "counts", "thing"],
        })


if __name__ == "__main__":
    unittest.main()
