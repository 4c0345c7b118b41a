"""counts.py: points [32] to [36]."""

import math
import unittest
from fractions import Fraction

from any_values import not_integers
from checking import Checks
from evenfailover import counts
from evenfailover.counts import copied_to, found_at, held_by_server, held_by_set
from evenfailover.errors import NotPossible
from reference import SMALL, first_live, least, rule_table, sets_of

GREAT = (7, 12, 31, 59, 60)


def alive_and_factor(n):
    """Return all (alive, factor) of n servers."""
    return [(alive, factor) for alive in range(1, n + 1) for factor in range(1, alive + 1)]


def great_counts(n, depth):
    """Return possible counts of up to forty digits."""
    one = least(n, depth)
    return [one, 2 * one, 997 * one, (10 ** 40 - 1) // one * one]


def some_alive_and_factor(n):
    """Return some (alive, factor) of n servers, the ends among them."""
    found = []
    for alive in sorted({1, 2, (n + 2) // 3, n // 2, n - 1, n}):
        found.extend([(alive, factor) for factor in sorted({1, (alive + 1) // 2, alive})])
    return found


class ByEnumeration(Checks):
    def tables(self):
        """Return (n, count, table, alive, factor) for the depth of the formulas and for the full depth."""
        for n in SMALL:
            for alive, factor in alive_and_factor(n):
                depth = n - alive + factor
                for count in (least(n, depth), 2 * least(n, depth)):
                    yield n, count, rule_table(n, depth, count), alive, factor
                yield n, least(n, n), rule_table(n, n, least(n, n)), alive, factor

    def test_held_by_set(self):
        for n, count, table, alive, factor in self.tables():
            expected = held_by_set(n, count, alive, factor)
            for live in sets_of(n, alive):
                held = [tuple(sorted(first_live(order, live, factor))) for order in table]
                for members in set(held):
                    self.assertEqual(held.count(members), expected, (n, count, live, members))
                self.assertEqual(len(set(held)), math.comb(alive, factor))

    def test_held_by_server(self):
        for n, count, table, alive, factor in self.tables():
            expected = held_by_server(n, count, alive, factor)
            for live in sets_of(n, alive):
                held = [first_live(order, live, factor) for order in table]
                for server in live:
                    found = sum([server in servers for servers in held])
                    self.assertEqual(found, expected, (n, count, live, server))

    def test_found_at(self):
        for n, count, table, alive, factor in self.tables():
            expected = [found_at(n, count, alive, factor, index) for index in range(n)]
            for live in sets_of(n, alive):
                found = [0] * n
                for order in table:
                    found[order.index(first_live(order, live, factor)[-1])] += 1
                self.assertEqual(found, expected, (n, count, live, factor))

    def test_copied_to(self):
        for n in SMALL:
            for alive, factor in alive_and_factor(n):
                depth = n - alive + factor + 1
                if factor < alive:
                    for count in (least(n, depth), 2 * least(n, depth), least(n, n)):
                        self.check_copies(n, count, rule_table(n, depth, count), alive, factor)

    def check_copies(self, n, count, table, alive, factor):
        expected = copied_to(n, count, alive, factor)
        for live in sets_of(n, alive):
            for failed in live:
                stay = [server for server in live if server != failed]
                received = {server: 0 for server in stay}
                for order in table:
                    if failed in first_live(order, live, factor):
                        received[first_live(order, stay, factor)[-1]] += 1
                self.assertEqual(received, {server: expected for server in stay}, (n, count, live, failed))


class ByFormula(Checks):
    def test_examples(self):
        self.assertEqual(held_by_set(4, 12, 3, 2), 4)
        self.assertEqual(held_by_server(4, 12, 3, 2), 8)
        self.assertEqual(copied_to(4, 12, 4, 1), 1)
        self.assertEqual(found_at(4, 12, 2, 1, 1), 4)
        self.assertEqual([found_at(4, 12, 2, 1, index) for index in range(4)], [6, 4, 2, 0])
        self.assert_error(NotPossible, "count", 3, copied_to, 3, 3, 3, 1)

    def test_every_share_is_whole(self):
        for n in range(2, 61):
            leasts = [least(n, depth) for depth in range(1, n + 1)]
            for alive, factor in alive_and_factor(n):
                one = leasts[n - alive + factor - 1]
                self.assertEqual(one % math.comb(alive, factor), 0, (n, alive, factor))
                self.assertEqual(one * factor % alive, 0, (n, alive, factor))
                if factor < alive:
                    one = leasts[n - alive + factor]
                    self.assertEqual(one * factor % (alive * (alive - 1)), 0, (n, alive, factor))

    def test_great_holders(self):
        for n in GREAT:
            for alive, factor in some_alive_and_factor(n):
                for count in great_counts(n, n - alive + factor):
                    held = held_by_set(n, count, alive, factor)
                    self.assertEqual(held, Fraction(count, math.comb(alive, factor)))
                    self.assertIs(held.__class__, int)
                    held = held_by_server(n, count, alive, factor)
                    self.assertEqual(held, Fraction(count * factor, alive))
                    self.assertIs(held.__class__, int)

    def test_great_copies(self):
        for n in GREAT:
            for alive, factor in some_alive_and_factor(n):
                if factor < alive:
                    for count in great_counts(n, n - alive + factor + 1):
                        copied = copied_to(n, count, alive, factor)
                        self.assertEqual(copied, Fraction(count * factor, alive * (alive - 1)))
                        self.assertIs(copied.__class__, int)

    def test_great_indexes(self):
        for n in GREAT:
            for alive, factor in some_alive_and_factor(n):
                for count in great_counts(n, n - alive + factor):
                    found = [found_at(n, count, alive, factor, index) for index in range(n)]
                    expected = [
                        # In another way than the document: live servers before and behind the index.
                        Fraction(
                            count * math.comb(index, factor - 1) * math.comb(n - 1 - index, alive - factor),
                            math.comb(n, alive),
                        )
                        for index in range(n)
                    ]
                    self.assertEqual(found, expected, (n, count, alive, factor))
                    self.assertEqual(sum(found), count)

    def test_index_outside_the_range_of_the_point(self):
        for n in (2, 5, 60):
            for alive, factor in some_alive_and_factor(n):
                for index in range(n):
                    found = found_at(n, least(n, n), alive, factor, index)
                    inside = factor - 1 <= index <= n - alive + factor - 1
                    self.assertEqual(found > 0, inside, (n, alive, factor, index))

    def test_all_servers_alive(self):
        for n in (2, 4, 60):
            for factor in range(1, n + 1):
                found = [found_at(n, least(n, n), n, factor, index) for index in range(n)]
                expected = [0] * n
                expected[factor - 1] = least(n, n)
                self.assertEqual(found, expected)

    def test_somewhat_beyond(self):
        self.assertEqual(held_by_set(61, 3660, 61, 2), 2)
        self.assertEqual(found_at(4, 12, 2, 1, 4), 0)
        self.assertEqual(found_at(4, 12, 2, 1, -1), 0)
        for alive, factor in ((0, 0), (1, 0), (4, 0), (4, -1), (5, 1), (6, 2)):
            self.assertIs(held_by_set(4, 12, alive, factor).__class__, int)
            self.assertIs(held_by_server(4, 12, alive, factor).__class__, int)
            for index in range(-2, 7):
                self.assertIs(found_at(4, 12, alive, factor, index).__class__, int)
        for alive, factor in ((0, -1), (1, 0), (4, 0), (4, -1), (5, 1), (6, 2)):
            self.assertIs(copied_to(4, 12, alive, factor).__class__, int)


class Errors(Checks):
    def assert_not_possible(self, n, count, alive, factor):
        self.assert_error(NotPossible, "count", count, held_by_set, n, count, alive, factor)
        self.assert_error(NotPossible, "count", count, held_by_server, n, count, alive, factor)
        for index in sorted({0, factor - 1, n - 1}):
            self.assert_error(NotPossible, "count", count, found_at, n, count, alive, factor, index)

    def test_counts_of_any_value(self):
        for n, alive, factor in ((2, 1, 1), (3, 2, 1), (4, 4, 2), (4, 3, 2), (60, 60, 1), (60, 1, 1), (60, 30, 30)):
            one = least(n, n - alive + factor)
            for count in [0, -1, -one, one - 1, one + 1, 10 ** 39 // one * one + 1] + not_integers():
                self.assert_not_possible(n, count, alive, factor)

    def test_copied_to_with_counts_of_any_value(self):
        for n, alive, factor in ((2, 2, 1), (3, 2, 1), (4, 4, 2), (4, 3, 2), (60, 60, 1), (60, 2, 1), (60, 30, 29)):
            one = least(n, n - alive + factor + 1)
            for count in [0, -1, -one, one - 1, one + 1, 10 ** 39 // one * one + 1] + not_integers():
                self.assert_error(NotPossible, "count", count, copied_to, n, count, alive, factor)

    def test_depth_decides_whether_a_count_is_possible(self):
        for n, count in ((4, 4), (4, 8), (4, 12), (5, 5), (5, 20), (5, 60), (6, 30), (6, 60), (7, 42), (7, 210)):
            for alive, factor in alive_and_factor(n):
                if count % least(n, n - alive + factor) == 0:
                    self.assertEqual(held_by_set(n, count, alive, factor) * math.comb(alive, factor), count)
                    self.assertEqual(held_by_server(n, count, alive, factor) * alive, count * factor)
                    found = [found_at(n, count, alive, factor, index) for index in range(n)]
                    self.assertEqual(sum(found), count)
                else:
                    self.assert_not_possible(n, count, alive, factor)

    def test_a_copy_needs_one_depth_more(self):
        for n, count in ((4, 4), (4, 12), (5, 5), (5, 20), (5, 60), (6, 30), (7, 7), (60, 60), (60, 3540)):
            for alive, factor in alive_and_factor(n):
                if factor == alive:
                    continue
                if count % least(n, n - alive + factor + 1) == 0:
                    copied = copied_to(n, count, alive, factor)
                    self.assertEqual(copied * alive * (alive - 1), count * factor)
                else:
                    self.assert_error(NotPossible, "count", count, copied_to, n, count, alive, factor)

    def test_more_replicas_than_servers(self):
        self.assert_not_possible(4, 12, 3, 4)
        self.assert_error(NotPossible, "count", 12, copied_to, 4, 12, 3, 3)


class Interface(Checks):
    def test_arguments_by_name(self):
        self.assert_same_by_name(held_by_set, 4, 12, 3, 2)
        self.assert_same_by_name(held_by_server, 4, 12, 3, 2)
        self.assert_same_by_name(copied_to, 4, 12, 4, 1)
        self.assert_same_by_name(found_at, 4, 12, 2, 1, 1)
        self.assertEqual(held_by_set(n=4, count=12, alive=3, factor=2), 4)
        self.assertEqual(held_by_server(n=4, count=12, alive=3, factor=2), 8)
        self.assertEqual(copied_to(n=4, count=12, alive=4, factor=1), 1)
        self.assertEqual(found_at(n=4, count=12, alive=2, factor=1, index=1), 4)

    def test_names_in_their_order_and_file(self):
        self.assert_interface(counts, {
            "held_by_set": ["n", "count", "alive", "factor"],
            "held_by_server": ["n", "count", "alive", "factor"],
            "copied_to": ["n", "count", "alive", "factor"],
            "found_at": ["n", "count", "alive", "factor", "index"],
        })


if __name__ == "__main__":
    unittest.main()
