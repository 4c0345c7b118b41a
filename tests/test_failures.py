"""failures.py: points [37] to [39]."""

import random
import unittest

from checking import Checks
from evenfailover import failures
from evenfailover.errors import TooShort
from evenfailover.failures import copies, drops, successor
from reference import first_live, least, live_sets, random_table, rule_table, sets_of

ROUND = ((0, 1, 2), (1, 2, 0), (2, 0, 1))
SIX = ((0, 1, 2), (0, 2, 1), (1, 0, 2), (1, 2, 0), (2, 0, 1), (2, 1, 0))


def without(live, server):
    return tuple([other for other in live if other != server])


def receiver(order, live, factor, failed):
    """Return who receives the shard: who holds it after the failure and did not before."""
    before = first_live(order, live, factor)
    after = first_live(order, without(live, failed), factor)
    new = sorted(set(after) - set(before))
    return new[0] if new else None


def has_so_many(order, live, many):
    return len(first_live(order, live, many)) == many


def counted_copies(table, live, factor, failed):
    """Return what each other live server receives, list by list."""
    received = [receiver(order, live, factor, failed) for order in table]
    return tuple([(server, received.count(server)) for server in without(live, failed)])


def counted_drops(table, live, factor, back):
    """Return what each live server drops: what it holds before the recovery and not after it."""
    later = tuple(sorted(live + (back,)))
    dropped = []
    for order in table:
        gone = set(first_live(order, live, factor)) - set(first_live(order, later, factor))
        dropped.extend(sorted(gone))
    return tuple([(server, dropped.count(server)) for server in live])


def drawn_cases(seed):
    """Return (n, table, live) of 2 to 60 servers, lists of every depth, some too short."""
    source = random.Random(seed)
    found = []
    for n in [2, 2, 3, 3, 4, 4, 5, 5, 6, 6, 7, 9, 12, 17, 23, 31, 40, 59, 60]:
        for depth in sorted({1, 2, n // 2 + 1, n - 1, n}):
            for alive in sorted({1, 2, n // 2 + 1, n - 1, n}):
                table = random_table(source, n, depth, source.randrange(1, 6))
                found.append((n, table, tuple(sorted(source.sample(range(n), alive)))))
    return found


def some_pairs(n, live):
    """Return (factor, failed): all pairs, or of many servers a part in which each of them occurs."""
    pairs = [(factor, failed) for factor in range(1, len(live)) for failed in live]
    if n <= 12:
        return pairs
    return [(factor, failed) for factor, failed in pairs if (live.index(failed) + factor) % 7 == 0]


class Successor(Checks):
    def test_examples(self):
        self.assertEqual(successor((0, 1, 3, 2), (0, 1, 2, 3), 1, 0), 1)
        self.assertEqual(successor((2, 0, 1), (0, 1, 2), 2, 0), 1)
        self.assert_error(TooShort, "order", (2, 0), successor, (2, 0), (0, 1, 2), 2, 1)

    def test_drawn_lists(self):
        found = {"copy": 0, "none": 0, "short": 0}
        for n, table, live in drawn_cases(37):
            for order in table[:2]:
                for factor, failed in some_pairs(n, live):
                    found[self.check(order, live, factor, failed)] += 1
        self.assertGreater(min(found.values()), 1000)

    def check(self, order, live, factor, failed):
        if not has_so_many(order, live, factor + 1):
            self.assert_raises_quickly(TooShort, "order", order, successor, order, live, factor, failed)
            return "short"
        expected = receiver(order, live, factor, failed)
        self.assertEqual(successor(order, live, factor, failed), expected, (order, live, factor, failed))
        return "none" if expected is None else "copy"

    def test_none_where_it_holds_nothing(self):
        self.assertIsNone(successor((0, 1, 3, 2), (0, 1, 2, 3), 1, 1))
        self.assertIsNone(successor((0, 1, 3, 2), (0, 1, 2, 3), 2, 3))
        self.assertIsNone(successor((0, 1, 3), (0, 1, 2, 3), 2, 2))

    def test_too_short_where_it_holds_nothing(self):
        self.assert_error(TooShort, "order", (0, 1), successor, (0, 1), (0, 1, 2, 3), 2, 3)
        self.assert_error(TooShort, "order", (0, 1), successor, (0, 1), (2, 3), 1, 3)
        self.assertEqual(successor((0, 1), (0, 1, 2, 3), 1, 0), 1)

    def test_server_zero_receives(self):
        self.assertEqual(successor((1, 0), (0, 1), 1, 1), 0)

    def test_somewhat_beyond(self):
        # So many live servers are in no list: the words of the point ask for the error.
        self.assert_error(TooShort, "order", (0, 1), successor, (0, 1), (0, 1), 2, 0)
        self.assert_error(TooShort, "order", (0, 1), successor, (0, 1), (0, 1), 3, 0)
        self.assertIsNone(successor((0, 1), (0, 1), 0, 0))


class Copies(Checks):
    def test_examples(self):
        self.assertEqual(copies(3, ROUND, (0, 1, 2), 1, 0), ((1, 1), (2, 0)))
        self.assertEqual(copies(3, SIX, (0, 1, 2), 2, 0), ((1, 2), (2, 2)))

    def test_drawn_tables(self):
        short = 0
        for n, table, live in drawn_cases(38):
            for factor, failed in some_pairs(n, live):
                bad = [order for order in table if not has_so_many(order, live, factor + 1)]
                if bad:
                    short += 1
                    self.assert_raises_quickly(TooShort, "order", bad[0], copies, n, table, live, factor, failed)
                else:
                    expected = counted_copies(table, live, factor, failed)
                    self.assertEqual(copies(n, table, live, factor, failed), expected)
        self.assertGreater(short, 1000)

    def test_first_list_that_is_too_short(self):
        table = ((0, 1, 2), (3, 0, 4), (3, 4, 0), (1, 3, 4))
        self.assert_error(TooShort, "order", (3, 0, 4), copies, 5, table, (0, 1, 2), 1, 1)
        self.assert_error(TooShort, "order", (1, 3, 4), copies, 5, table, (0, 2, 4), 1, 2)
        self.assert_error(TooShort, "order", (0, 1, 2), copies, 5, table, (0, 3, 4), 1, 4)

    def test_servers_that_receive_nothing(self):
        self.assertEqual(copies(4, ((0, 1, 2, 3),), (0, 1, 2, 3), 1, 0), ((1, 1), (2, 0), (3, 0)))
        self.assertEqual(copies(4, ((0, 1, 2, 3),), (0, 1, 2, 3), 1, 2), ((0, 0), (1, 0), (3, 0)))

    def test_standard_tables_share_the_copies(self):
        for n in range(2, 7):
            for alive in range(2, n + 1):
                for factor in range(1, alive):
                    depth = n - alive + factor + 1
                    table = rule_table(n, depth, least(n, depth))
                    for live in sets_of(n, alive):
                        self.check_shared(n, table, live, factor)

    def check_shared(self, n, table, live, factor):
        alive = len(live)
        each, over = divmod(len(table) * factor, alive * (alive - 1))
        self.assertEqual(over, 0)
        for failed in live:
            expected = tuple([(server, each) for server in without(live, failed)])
            self.assertEqual(copies(n, table, live, factor, failed), expected)


class Drops(Checks):
    def test_example(self):
        self.assertEqual(drops(3, ROUND, (1, 2), 1, 0), ((1, 1), (2, 0)))

    def test_drawn_tables(self):
        short = 0
        for n, table, live in drawn_cases(39):
            for factor in range(1, len(live) + 1):
                bad = [order for order in table if not has_so_many(order, live, factor)]
                for back in sorted(set(range(n)) - set(live))[:8]:
                    if bad:
                        short += 1
                        self.assert_raises_quickly(TooShort, "order", bad[0], drops, n, table, live, factor, back)
                    else:
                        expected = counted_drops(table, live, factor, back)
                        self.assertEqual(drops(n, table, live, factor, back), expected)
        self.assertGreater(short, 500)

    def test_first_list_that_is_too_short(self):
        table = ((0, 1, 2), (3, 0, 4), (3, 4, 0), (1, 3, 4))
        self.assert_error(TooShort, "order", (3, 0, 4), drops, 5, table, (1, 2), 1, 0)
        # It is too short without the server, even if it would not be with it.
        self.assert_error(TooShort, "order", (0, 1), drops, 3, ((0, 1),), (1, 2), 2, 0)
        self.assertEqual(drops(3, ((0, 1),), (1, 2), 1, 0), ((1, 1), (2, 0)))

    def test_list_without_the_server(self):
        self.assertEqual(drops(4, ((1, 2), (2, 1), (0, 1)), (1, 2), 1, 0), ((1, 1), (2, 0)))
        self.assertEqual(drops(4, ((1, 2), (2, 1)), (1, 2), 2, 3), ((1, 0), (2, 0)))

    def test_standard_tables_share_the_drops(self):
        for n in range(2, 7):
            table = rule_table(n, n, least(n, n))
            for live in live_sets(n):
                alive = len(live)
                for factor in range(1, alive + 1):
                    for back in sorted(set(range(n)) - set(live)):
                        each, over = divmod(len(table) * factor, alive * (alive + 1))
                        self.assertEqual(over, 0)
                        expected = tuple([(server, each) for server in live])
                        self.assertEqual(drops(n, table, live, factor, back), expected)

    def test_what_was_copied_is_dropped(self):
        for n, table, live in drawn_cases(40):
            for factor in range(1, min(len(live), 5)):
                if all([has_so_many(order, live, factor + 1) for order in table]):
                    for failed in live:
                        copied = copies(n, table, live, factor, failed)
                        self.assertEqual(drops(n, table, without(live, failed), factor, failed), copied)

    def test_somewhat_beyond(self):
        # With more replicas than live servers, all of them keep theirs.
        self.assertEqual(drops(3, ROUND, (1, 2), 3, 0), ((1, 0), (2, 0)))
        self.assertEqual(drops(3, ROUND, (1, 2), 0, 0), ((1, 0), (2, 0)))
        self.assertEqual(drops(3, ((0, 1),), (1,), 2, 2), ((1, 0),))


class Interface(Checks):
    def test_arguments_by_name(self):
        self.assert_same_by_name(successor, (0, 1, 3, 2), (0, 1, 2, 3), 1, 0)
        self.assert_same_by_name(copies, 3, ROUND, (0, 1, 2), 1, 0)
        self.assert_same_by_name(drops, 3, ROUND, (1, 2), 1, 0)
        self.assertEqual(successor(order=(0, 1, 3, 2), live=(0, 1, 2, 3), factor=1, failed=0), 1)
        self.assertEqual(copies(n=3, table=ROUND, live=(0, 1, 2), factor=1, failed=0), ((1, 1), (2, 0)))
        self.assertEqual(drops(n=3, table=ROUND, live=(1, 2), factor=1, back=0), ((1, 1), (2, 0)))

    def test_names_in_their_order_and_file(self):
        self.assert_interface(failures, {
            "successor": ["order", "live", "factor", "failed"],
            "copies": ["n", "table", "live", "factor", "failed"],
            "drops": ["n", "table", "live", "factor", "back"],
        })


if __name__ == "__main__":
    unittest.main()
