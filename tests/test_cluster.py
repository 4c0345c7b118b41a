"""cluster.py: points [50] to [53]."""

import copy
import inspect
import random
import unittest

from any_values import any_values, not_integers
from checking import Checks
from cluster_model import Model, reach, small_clusters
from evenfailover import cluster as module
from evenfailover.cluster import Cluster
from evenfailover.errors import NoCluster, NoNumber, NotDead, NotLive, NotPossible, NoUndo, TooFew
from reference import first_live, least, places

METHODS = {
    "live": ["self"],
    "owners": ["self", "shard"],
    "load": ["self", "server"],
    "successor": ["self", "shard", "server"],
    "fail": ["self", "server"],
    "recover": ["self", "server"],
    "copied": ["self"],
    "changes": ["self"],
    "undo": ["self"],
    "copy": ["self"],
}


def state(cluster):
    """Return all that can be asked of a cluster, but for its owners."""
    return cluster.live(), len(cluster), cluster.copied(), cluster.changes()


def great_clusters():
    """Return (n, failures, factor, count) for up to 60 servers and counts of up to forty digits."""
    found = []
    for n in (7, 20, 41, 59, 60):
        for failures in sorted({1, 2, n // 2, n - 1}):
            for factor in sorted({1, 3, n // 2, n - 1, n}):
                one = least(n, reach(n, failures, factor))
                found.extend([(n, failures, factor, one), (n, failures, factor, (10 ** 40 - 1) // one * one)])
    return found


class Creation(Checks):
    def test_examples(self):
        self.assertEqual(Cluster(4, 3, 1, 12).live(), (0, 1, 2, 3))
        self.assert_error(NotPossible, "count", 18, Cluster, 4, 3, 1, 18)

    def test_every_small_cluster(self):
        for fields in small_clusters(range(2, 7)):
            cluster = Cluster(*fields)
            self.assertEqual(state(cluster), (tuple(range(fields[0])), fields[0], 0, 0))

    def test_n_of_any_value(self):
        for n in [-60, -1, 0, 1, 61, 62, 10 ** 40] + not_integers():
            self.assert_error(NoCluster, "field", "n", Cluster, n, 1, 1, 12)
            self.assert_error(NoCluster, "field", "n", Cluster, n, None, None, None)
        for n in (2, 3, 59, 60):
            Cluster(n, 1, 1, n * (n - 1))

    def test_failures_of_any_value(self):
        for n in (2, 4, 60):
            for failures in [-1, 0, n, n + 1, 10 ** 40] + not_integers():
                self.assert_error(NoCluster, "field", "failures", Cluster, n, failures, 1, least(n, n))
                self.assert_error(NoCluster, "field", "failures", Cluster, n, failures, 0, [])
            for failures in (1, n - 1):
                Cluster(n, failures, 1, least(n, n))

    def test_factor_of_any_value(self):
        for n in (2, 4, 60):
            for factor in [-1, 0, n + 1, n + 2, 10 ** 40] + not_integers():
                self.assert_error(NoCluster, "field", "factor", Cluster, n, 1, factor, least(n, n))
                self.assert_error(NoCluster, "field", "factor", Cluster, n, 1, factor, 0)
            for factor in (1, n):
                Cluster(n, 1, factor, least(n, n))

    def test_count_of_any_value(self):
        for n, failures, factor in ((2, 1, 1), (4, 1, 1), (4, 3, 4), (5, 1, 2), (60, 1, 1), (60, 59, 60)):
            one = least(n, reach(n, failures, factor))
            for count in [0, -1, -one, one - 1, one + 1, one // 2, 10 ** 39 // one * one + 1] + not_integers():
                self.assert_error(NotPossible, "count", count, Cluster, n, failures, factor, count)
            for count in (one, 2 * one, (10 ** 40 - 1) // one * one):
                Cluster(n, failures, factor, count)

    def test_reach_decides_whether_a_count_is_possible(self):
        for n in range(2, 8):
            for failures in range(1, n):
                for factor in range(1, n + 1):
                    for count in range(1, 61):
                        if count % least(n, reach(n, failures, factor)) == 0:
                            Cluster(n, failures, factor, count)
                        else:
                            self.assert_raises_quickly(NotPossible, "count", count, Cluster, n, failures, factor, count)


class ShardByShard(Checks):
    def check(self, cluster, model):
        """All that the cluster says agrees with the model."""
        self.assertEqual(cluster.live(), model.live)
        self.assertEqual(len(cluster), len(model.live))
        self.assertEqual(cluster.copied(), model.copied())
        self.assertEqual(cluster.changes(), len(model.past))
        for shard in range(model.count):
            self.assertEqual(cluster.owners(shard), model.owners(shard))
        for server in range(model.n):
            if server in model.live:
                self.assertEqual(cluster.load(server), model.load(server))
                self.check_successors(cluster, model, server)
            else:
                self.assert_raises_quickly(NotLive, "value", server, cluster.load, server)
                self.assert_raises_quickly(NotLive, "value", server, cluster.successor, 0, server)

    def check_successors(self, cluster, model, server):
        shards = [0, model.count - 1, model.count // 2] + list(range(server, model.count, 5))
        for shard in shards:
            if model.may_fail():
                self.assertEqual(cluster.successor(shard, server), model.successor(shard, server))
            else:
                alive = len(model.live)
                self.assert_raises_quickly(TooFew, "alive", alive, cluster.successor, shard, server)

    def step(self, source, cluster, model):
        """Change both in the same way, or try what cannot be done."""
        action = source.choice(["fail", "fail", "recover", "undo"])
        server = source.randrange(model.n)
        if action == "undo":
            if model.past:
                self.assertEqual(cluster.undo(), model.undo())
            else:
                self.assertRaises(NoUndo, cluster.undo)
        elif action == "recover":
            if server in model.live:
                self.assert_raises_quickly(NotDead, "value", server, cluster.recover, server)
            else:
                self.assertEqual(cluster.recover(server), model.recover(server))
        elif server not in model.live:
            self.assert_raises_quickly(NotLive, "value", server, cluster.fail, server)
        elif not model.may_fail():
            self.assert_raises_quickly(TooFew, "alive", len(model.live), cluster.fail, server)
        else:
            self.assertEqual(cluster.fail(server), model.fail(server))

    def test_random_changes(self):
        source = random.Random(52)
        for fields in small_clusters(range(2, 7)):
            cluster, model = Cluster(*fields), Model(*fields)
            self.check(cluster, model)
            for round_number in range(15):
                for step_number in range(source.randrange(1, 4)):
                    self.step(source, cluster, model)
                self.check(cluster, model)

    def test_undone_to_the_beginning(self):
        source = random.Random(53)
        for fields in small_clusters(range(2, 6)):
            cluster, model = Cluster(*fields), Model(*fields)
            for step_number in range(25):
                self.step(source, cluster, model)
            while model.past:
                self.assertEqual(cluster.undo(), model.undo())
                self.assertEqual(state(cluster), (model.live, len(model.live), model.copied(), len(model.past)))
            self.check(cluster, model)
            self.assertEqual(cluster, Cluster(*fields))
            self.assertRaises(NoUndo, cluster.undo)
            self.check(cluster, model)

    def test_all_fail_and_all_recover(self):
        for fields in small_clusters(range(2, 7)):
            cluster, model = Cluster(*fields), Model(*fields)
            for server in range(fields[1]):
                self.assertEqual(cluster.fail(server), model.fail(server))
            self.check(cluster, model)
            self.assert_error(TooFew, "alive", fields[0] - fields[1], cluster.fail, fields[0] - 1)
            for server in range(fields[1]):
                self.assertEqual(cluster.recover(server), model.recover(server))
            self.check(cluster, model)
            self.assertEqual(cluster.changes(), 2 * fields[1])

    def test_order_of_failures_does_not_matter(self):
        source = random.Random(70)
        for n, failures, factor, count in small_clusters(range(3, 7)):
            dead = source.sample(range(n), failures)
            one, other = Cluster(n, failures, factor, count), Cluster(n, failures, factor, count)
            for server in dead:
                one.fail(server)
            for server in dead[::-1]:
                other.fail(server)
                other.recover(server)
                other.fail(server)
            self.assertEqual(one, other)
            for shard in range(count):
                self.assertEqual(one.owners(shard), other.owners(shard))


class Examples(Checks):
    def test_owners_and_successor(self):
        cluster = Cluster(4, 3, 1, 12)
        self.assertEqual(cluster.owners(0), (0,))
        self.assertEqual(cluster.successor(0, 0), 1)
        self.assertEqual(cluster.fail(0), 3)
        self.assertEqual(cluster.owners(0), (1,))
        self.assertEqual(cluster.undo(), 0)
        self.assertEqual(cluster.copied(), 0)

    def test_two_failures(self):
        cluster = Cluster(3, 2, 1, 6)
        first = cluster.fail(2)
        second = cluster.fail(0)
        found = (first, second, cluster.owners(0), cluster.load(1), cluster.copied())
        self.assertEqual(found, (2, 3, (1,), 6, 5))

    def test_factor_of_all_servers(self):
        cluster = Cluster(2, 1, 2, 2)
        first = cluster.fail(0)
        second = cluster.recover(0)
        self.assertEqual((first, second, cluster.changes()), (0, 2, 2))
        self.assertEqual(cluster.copied(), 2)

    def test_none_if_all_live_servers_hold_the_shard(self):
        cluster = Cluster(3, 2, 2, 6)
        cluster.fail(2)
        self.assertIsNone(cluster.successor(0, 0))
        self.assertEqual((cluster.load(0), cluster.load(1)), (6, 6))
        cluster.fail(0)
        self.assertEqual(cluster.load(1), 6)
        self.assertEqual(cluster.owners(5), (1,))
        self.assert_error(TooFew, "alive", 1, cluster.successor, 0, 1)


class Errors(Checks):
    def clusters(self):
        """Return clusters with live and dead servers, and whether another may fail."""
        free, full = Cluster(5, 3, 2, 60), Cluster(5, 2, 2, 60)
        for cluster in (free, full):
            cluster.fail(1)
            cluster.fail(3)
        return [(free, True), (full, False)]

    def check_unchanged(self, cluster, kind, attribute, value, function, *arguments):
        before = state(cluster), [cluster.owners(shard) for shard in (0, 17, 59)]
        self.assert_error(kind, attribute, value, function, *arguments)
        self.assertEqual((state(cluster), [cluster.owners(shard) for shard in (0, 17, 59)]), before)

    def test_shards_of_any_value(self):
        for cluster, may_fail in self.clusters():
            for shard in [-1, -60, 60, 61, 10 ** 40] + not_integers():
                self.check_unchanged(cluster, NoNumber, "value", shard, cluster.owners, shard)
                for server in (0, 1, 5, None):
                    self.check_unchanged(cluster, NoNumber, "value", shard, cluster.successor, shard, server)

    def test_servers_that_are_not_live(self):
        for cluster, may_fail in self.clusters():
            for server in [1, 3, -1, -2, 5, 6, 10 ** 40] + not_integers():
                self.check_unchanged(cluster, NotLive, "value", server, cluster.load, server)
                self.check_unchanged(cluster, NotLive, "value", server, cluster.fail, server)
                for shard in range(0, 60, 11):
                    self.check_unchanged(cluster, NotLive, "value", server, cluster.successor, shard, server)

    def test_servers_that_must_stay_alive(self):
        for cluster, may_fail in self.clusters():
            for server in (0, 2, 4):
                for shard in range(60):
                    if may_fail:
                        cluster.successor(shard, server)
                    else:
                        self.check_unchanged(cluster, TooFew, "alive", 3, cluster.successor, shard, server)
            if not may_fail:
                for server in (0, 2, 4):
                    self.check_unchanged(cluster, TooFew, "alive", 3, cluster.fail, server)

    def test_servers_that_are_not_dead(self):
        for cluster, may_fail in self.clusters():
            for server in [0, 2, 4, -1, -4, 5, 6, 10 ** 40] + not_integers():
                self.check_unchanged(cluster, NotDead, "value", server, cluster.recover, server)

    def test_bools_are_no_servers_and_no_shards(self):
        cluster = Cluster(2, 1, 1, 2)
        for value in (True, False):
            self.check_flags(cluster, value)
        cluster.fail(1)
        self.assert_error(NotDead, "value", True, cluster.recover, True)
        cluster.undo()
        cluster.fail(0)
        self.assert_error(NotDead, "value", False, cluster.recover, False)

    def check_flags(self, cluster, value):
        self.assert_error(NoNumber, "value", value, cluster.owners, value)
        self.assert_error(NotLive, "value", value, cluster.load, value)
        self.assert_error(NotLive, "value", value, cluster.fail, value)
        self.assert_error(NoNumber, "value", value, cluster.successor, value, 0)
        self.assert_error(NotLive, "value", value, cluster.successor, 0, value)

    def test_every_value_changes_nothing_or_raises(self):
        for value in any_values():
            cluster = Cluster(4, 3, 1, 12)
            cluster.fail(2)
            before = copy.deepcopy(value)
            if value.__class__ is int and value in (0, 1, 3):
                cluster.fail(value)
                self.assertEqual(cluster.changes(), 2)
            else:
                self.check_small(cluster, value)
            self.assertEqual(repr(value), repr(before))

    def check_small(self, cluster, value):
        before = state(cluster)
        self.assert_error(NotLive, "value", value, cluster.fail, value)
        self.assert_error(NotLive, "value", value, cluster.load, value)
        self.assertEqual(state(cluster), before)

    def test_no_undo(self):
        cluster = Cluster(4, 3, 1, 12)
        with self.assertRaises(NoUndo) as caught:
            cluster.undo()
        self.assertEqual(vars(caught.exception), {})
        self.assertEqual(state(cluster), ((0, 1, 2, 3), 4, 0, 0))
        cluster.fail(1)
        cluster.undo()
        self.assertRaises(NoUndo, cluster.undo)

    def test_calls_that_raise_are_no_changes(self):
        cluster = Cluster(3, 1, 1, 6)
        cluster.fail(0)
        for call in (lambda: cluster.fail(0), lambda: cluster.fail(1), lambda: cluster.recover(2), lambda: cluster.load(0)):
            self.assertRaises(ValueError, call)
        self.assertEqual(cluster.changes(), 1)
        self.assertEqual(cluster.undo(), 0)
        self.assertEqual(state(cluster), ((0, 1, 2), 3, 0, 0))


class CopiesAndEquality(Checks):
    def test_copy_goes_on_independently(self):
        for fields in small_clusters(range(2, 6)):
            cluster = Cluster(*fields)
            cluster.fail(0)
            other = cluster.copy()
            self.assertIs(other.__class__, Cluster)
            self.assertIsNot(other, cluster)
            self.assertEqual(other, cluster)
            self.assertEqual(state(other), state(cluster))
            before = state(cluster)
            other.recover(0)
            self.assertEqual(state(cluster), before)
            self.assertNotEqual(other, cluster)
            other.undo()
            self.assertEqual(other.undo(), 0)
            self.assertRaises(NoUndo, other.undo)
            self.assertEqual(state(cluster), before)
            self.assertEqual(cluster.undo(), 0)
            self.assertEqual(other, cluster)

    def test_original_goes_on_independently(self):
        cluster = Cluster(5, 4, 2, 60)
        cluster.fail(3)
        cluster.fail(1)
        other = cluster.copy()
        before = state(other)
        cluster.undo()
        cluster.fail(4)
        cluster.fail(2)
        self.assertEqual(state(other), before)
        self.assertEqual([other.undo(), other.undo()], [1, 3])

    def test_equal_whatever_happened_before(self):
        one, other = Cluster(4, 3, 1, 12), Cluster(4, 3, 1, 12)
        one.fail(2)
        one.fail(0)
        one.recover(2)
        other.fail(0)
        self.assertTrue(one == other)
        self.assertFalse(one != other)
        self.assertNotEqual(one.changes(), other.changes())
        self.assertNotEqual(one.copied(), other.copied())

    def test_not_equal(self):
        base = Cluster(4, 2, 2, 12)
        for other in (
            Cluster(3, 2, 2, 12), Cluster(4, 3, 2, 12), Cluster(4, 1, 2, 12), Cluster(4, 2, 1, 12),
            Cluster(4, 2, 3, 12), Cluster(4, 2, 2, 24),
        ):
            self.assertFalse(base == other)
            self.assertFalse(other == base)
            self.assertTrue(base != other)
        failed = base.copy()
        failed.fail(3)
        self.assertFalse(base == failed)
        swapped = base.copy()
        swapped.fail(2)
        self.assertFalse(swapped == failed)

    def test_equals_nothing_else(self):
        cluster = Cluster(4, 3, 1, 12)
        for value in any_values() + [4, (0, 1, 2, 3), (4, 3, 1, 12), cluster.live(), vars(cluster), Cluster]:
            self.assertIs(cluster == value, False)
            self.assertIs(value == cluster, False)
            self.assertIs(cluster != value, True)

    def test_length_and_live(self):
        cluster = Cluster(6, 5, 2, 60)
        for number, server in enumerate((3, 0, 5, 1, 4)):
            cluster.fail(server)
            self.assertEqual(len(cluster), 5 - number)
            self.assertIs(cluster.live().__class__, tuple)
        self.assertEqual(cluster.live(), (2,))


class GreatClusters(Checks):
    def test_owners_loads_and_copies(self):
        source = random.Random(60)
        for n, failures, factor, count in great_clusters():
            cluster = Cluster(n, failures, factor, count)
            dead = source.sample(range(n), source.randrange(failures + 1))
            total = 0
            for server in dead:
                alive = len(cluster)
                expected = count * factor // alive if alive > factor else 0
                self.assertEqual(cluster.fail(server), expected)
                total += expected
            self.assertEqual((cluster.copied(), cluster.changes()), (total, len(dead)))
            self.check(source, cluster, (n, failures, factor, count))

    def check(self, source, cluster, fields):
        n, failures, factor, count = fields
        live = cluster.live()
        for server in source.sample(live, min(3, len(live))):
            load = cluster.load(server)
            self.assertEqual(load * len(live), count * min(factor, len(live)))
            self.assertIs(load.__class__, int)
        for shard in {0, 1, count - 1, count // 2, source.randrange(count), source.randrange(count)}:
            order = places(n, reach(n, failures, factor), count, shard)[0]
            owners = cluster.owners(shard)
            self.assertEqual(owners, first_live(order, live, factor))
            self.assertEqual(len(owners), min(factor, len(live)))
            if len(live) > n - failures:
                self.check_successor(cluster, order, shard, owners[0])
                self.check_successor(cluster, order, shard, live[-1])

    def check_successor(self, cluster, order, shard, server):
        later = cluster.copy()
        later.fail(server)
        new = set(later.owners(shard)) - set(cluster.owners(shard))
        found = cluster.successor(shard, server)
        self.assertEqual([found] if found is not None else [], sorted(new))

    def test_down_to_the_last_server_and_back(self):
        for n in (59, 60):
            count = (10 ** 40 - 1) // least(n, n) * least(n, n)
            cluster = Cluster(n, n - 1, 1, count)
            copied = [cluster.fail(server) for server in range(n - 1)]
            self.assertEqual(copied, [count // alive for alive in range(n, 1, -1)])
            self.assertEqual(cluster.load(n - 1), count)
            self.assert_error(TooFew, "alive", 1, cluster.fail, n - 1)
            for shard in (0, count // 3, count - 1):
                self.assertEqual(cluster.owners(shard), (n - 1,))
            back = [cluster.recover(server) for server in range(n - 1)]
            self.assertEqual(back, [count // alive for alive in range(2, n + 1)])
            self.assertEqual(cluster.copied(), sum(copied) + sum(back))
            for number in range(2 * n - 2):
                cluster.undo()
            self.assertEqual(state(cluster), (tuple(range(n)), n, 0, 0))

    def test_sum_of_the_loads(self):
        for n, failures, factor, count in great_clusters():
            cluster = Cluster(n, failures, factor, count)
            for server in range(failures):
                cluster.fail(server)
            loads = [cluster.load(server) for server in cluster.live()]
            self.assertEqual(sum(loads), count * min(factor, n - failures))


class Interface(Checks):
    def test_arguments_by_name(self):
        cluster = Cluster(count=12, factor=1, failures=3, n=4)
        self.assertEqual(cluster, Cluster(n=4, failures=3, factor=1, count=12))
        self.assertEqual(cluster.owners(shard=0), (0,))
        self.assertEqual(cluster.load(server=2), 3)
        self.assertEqual(cluster.successor(server=0, shard=0), 1)
        self.assertEqual(cluster.fail(server=0), 3)
        self.assertEqual(cluster.recover(server=0), 3)

    def test_names_in_their_order_and_file(self):
        self.assertEqual(Cluster.__module__, "evenfailover.cluster")
        self.assertIs(module.Cluster, Cluster)
        for name, parameters in METHODS.items():
            # Defined in the class itself, not only in a base class.
            self.assertIn(name, vars(Cluster))
            self.assertEqual(list(inspect.signature(vars(Cluster)[name]).parameters), parameters)
        self.assertEqual(list(inspect.signature(Cluster).parameters), ["n", "failures", "factor", "count"])
        self.assertIn("__eq__", vars(Cluster))
        self.assertIn("__len__", vars(Cluster))

    def test_same_call_same_result(self):
        cluster = Cluster(5, 2, 2, 60)
        cluster.fail(4)
        for shard in range(60):
            self.assertEqual(cluster.owners(shard), cluster.owners(shard))
            self.assertEqual(cluster.successor(shard, 0), cluster.successor(shard, 0))
        self.assertEqual(cluster.changes(), 1)
        self.assertEqual([cluster.load(server) for server in (0, 1, 0)], [30, 30, 30])


if __name__ == "__main__":
    unittest.main()
