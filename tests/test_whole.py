"""The program as a whole: point [7] over all modules, the overview, and every name of the interface."""

import ast
import importlib
import itertools
import pathlib
import random
import unittest

from checking import Checks
from evenfailover.cluster import Cluster
from evenfailover.counts import copied_to, held_by_server
from evenfailover.desk import Desk
from evenfailover.failures import copies, drops, successor
from evenfailover.flows import shows_table, table_from, unbalanced
from evenfailover.judging import is_even, uneven
from evenfailover.levels import even_reach, level_numbers
from evenfailover.lists import list_at
from evenfailover.numbers import edge_divisor, is_possible, least_lists
from evenfailover.tables import holders, is_table, loads, server_loads, standard_table
from evenfailover.texts import read_cluster, read_table, show_cluster, show_table
from evenfailover.weights import is_weighted, least_weighted, level_share, weighted_table
from reference import all_level_numbers, failures_and_factors, live_sets, random_table, sets_of

PACKAGE = pathlib.Path(__file__).resolve().parent.parent / "evenfailover"
INTERFACE = {
    "numbers": ["binomial", "edge_divisor", "least_lists", "is_possible"],
    "sets": ["is_set", "set_at", "set_number", "outside"],
    "lists": ["list_at", "place_at", "number_at", "numbers_with"],
    "tables": ["is_table", "standard_table", "holders", "loads", "server_loads"],
    "judging": ["is_even", "uneven", "shows_uneven"],
    "levels": ["level_numbers", "is_level", "even_reach"],
    "counts": ["held_by_set", "held_by_server", "copied_to", "found_at"],
    "failures": ["successor", "copies", "drops"],
    "weights": ["first_share", "level_share", "least_weighted", "weighted_table", "is_weighted"],
    "flows": ["unbalanced", "table_from", "shows_table"],
    "cluster": ["Cluster"],
    "texts": ["show_table", "show_cluster", "read_table", "read_cluster"],
    "desk": ["Desk"],
    "errors": [
        "FailoverError", "NoNumber", "NotPossible", "TooMany", "TooShort", "Unbalanced", "NoCluster", "NotLive",
        "NotDead", "TooFew", "NoUndo", "NoText", "NoLine",
    ],
}


def equal_counts(n, depth, count):
    """Return the counts in which all level numbers of each level are equal."""
    return {
        (members, server): count // edge_divisor(n, size)
        for size in range(depth) for members in sets_of(n, size) for server in range(n) if server not in members
    }


def without(live, server):
    return tuple([other for other in live if other != server])


class Interface(Checks):
    def test_every_name_is_defined_in_its_file(self):
        for module, names in INTERFACE.items():
            tree = ast.parse((PACKAGE / f"{module}.py").read_text(encoding="utf-8"))
            defined = [node.name for node in tree.body if isinstance(node, (ast.FunctionDef, ast.ClassDef))]
            loaded = importlib.import_module(f"evenfailover.{module}")
            for name in names:
                self.assertEqual(defined.count(name), 1, (module, name))
                self.assertEqual(getattr(loaded, name).__module__, f"evenfailover.{module}")

    def test_no_file_is_missing(self):
        names = sorted([path.name for path in PACKAGE.glob("*.py")])
        self.assertEqual(names, sorted(["__init__.py"] + [f"{module}.py" for module in INTERFACE]))


class EvenTables(Checks):
    def test_tables_from_equal_level_numbers_are_even(self):
        for n in range(2, 7):
            for depth in range(2, n + 1):
                for times in (1, 2):
                    count = least_lists(n, depth) * times
                    table = table_from(n, depth, equal_counts(n, depth, count))
                    self.assertTrue(is_table(n, depth, table))
                    self.assertEqual(len(table), count)
                    self.assertEqual(even_reach(n, table), depth)
                    for failures, factor, reach in failures_and_factors(n, depth):
                        self.assertIs(is_even(n, table, failures, factor), True)

    def test_standard_tables_have_equal_level_numbers(self):
        for n in range(2, 7):
            for depth in range(1, n + 1):
                count = least_lists(n, depth) * 2
                self.assertIs(shows_table(n, depth, equal_counts(n, depth, count), standard_table(n, depth, count)), True)

    def test_weighted_tables_of_equal_weights_are_even(self):
        for n in range(2, 7):
            for weight, times in ((1, 1), (7, 2), (1000, 3)):
                table = weighted_table((weight,) * n, least_lists(n, n) * times)
                for failures, factor, reach in failures_and_factors(n, n):
                    self.assertIs(is_even(n, table, failures, factor), True)
                    self.assertIsNone(uneven(n, table, failures, factor))

    def test_even_tables_of_full_depth_are_weighted(self):
        for n in range(2, 7):
            count = least_lists(n, n)
            self.assertEqual(least_weighted((4,) * n), count)
            self.assertIs(is_weighted((4,) * n, standard_table(n, n, count)), True)
            for size in range(n):
                for members in sets_of(n, size):
                    for server in range(n):
                        if server not in members:
                            self.assertEqual(level_share((4,) * n, members, server), (1, edge_divisor(n, size)))

    def test_unequal_weights_are_uneven(self):
        for weights in ((1, 2), (1, 1, 2), (1, 2, 3), (2, 1, 1, 1)):
            table = weighted_table(weights, least_weighted(weights))
            self.assertIs(is_even(len(weights), table, 1, 1), False)

    def test_all_failures_and_factors_of_tables_of_any_depth(self):
        for n in range(2, 7):
            for depth in range(1, n + 1):
                table = standard_table(n, depth, least_lists(n, depth))
                for failures, factor, reach in failures_and_factors(n, depth):
                    self.assertIs(is_possible(n, reach, len(table)), True)
                    self.assertIs(is_even(n, table, failures, factor), True)


class SameLevelNumbers(Checks):
    def test_tables_with_the_same_level_numbers_have_the_same_loads(self):
        source = random.Random(72)
        others = 0
        for n in range(3, 7):
            for round_number in range(6):
                table = random_table(source, n, n, 30)
                counts = all_level_numbers(table)
                other = table_from(n, n, counts)
                others += sorted(other) != sorted(table)
                for live in live_sets(n):
                    for factor in range(1, len(live) + 1):
                        self.assertEqual(loads(n, table, live, factor), loads(n, other, live, factor))
                for failures, factor, reach in failures_and_factors(n, n):
                    self.assertIs(is_even(n, table, failures, factor), is_even(n, other, failures, factor))
        self.assertGreater(others, 5)

    def test_level_numbers_of_any_table_balance(self):
        source = random.Random(73)
        for n in (2, 3, 5, 9, 30, 60):
            for depth in sorted({1, 2, n // 2 + 1, n}):
                table = random_table(source, n, depth, 25)
                counts = {}
                for size in range(depth):
                    counts.update(dict(level_numbers(n, table, size)))
                self.assertIsNone(unbalanced(n, depth, counts))
                self.assertIs(shows_table(n, depth, counts, table), True)
                self.assertIs(shows_table(n, depth, counts, table_from(n, depth, counts)), True)

    def test_weighted_tables_go_through_their_level_numbers(self):
        for weights in ((1, 2), (3, 4), (1, 1, 2), (1, 2, 3), (1, 1, 2, 2)):
            n = len(weights)
            table = weighted_table(weights, least_weighted(weights))
            other = table_from(n, n, all_level_numbers(table))
            self.assertIs(is_weighted(weights, other), True)
            for size in range(n):
                for (members, server), many in level_numbers(n, table, size):
                    part, whole = level_share(weights, members, server)
                    self.assertEqual(many * whole, part * len(table))


class Clusters(Checks):
    def cases(self):
        return [
            (n, failures, factor) for n in range(2, 7) for failures in range(1, n) for factor in range(1, n + 1)
        ]

    def test_beside_tables_and_formulas(self):
        for n, failures, factor in self.cases():
            depth = min(n, failures + factor)
            count = least_lists(n, depth)
            table = standard_table(n, depth, count)
            for many in range(failures + 1):
                for dead in itertools.islice(itertools.combinations(range(n), many), 6):
                    cluster = Cluster(n, failures, factor, count)
                    for server in dead:
                        cluster.fail(server)
                    self.check(cluster, table)

    def check(self, cluster, table):
        n, factor, live = cluster.n, cluster.factor, cluster.live()
        alive = len(live)
        for shard, order in enumerate(table):
            self.assertEqual(cluster.owners(shard), holders(order, live, factor))
        self.assertEqual(tuple([(server, cluster.load(server)) for server in live]), server_loads(n, table, live, factor))
        if factor <= alive:
            self.assertEqual(cluster.load(live[0]), held_by_server(n, len(table), alive, factor))
        if factor < alive and alive > n - cluster.failures:
            self.check_failure(cluster, table, live[-1])

    def check_failure(self, cluster, table, failed):
        n, factor, live = cluster.n, cluster.factor, cluster.live()
        each = copied_to(n, len(table), len(live), factor)
        self.assertEqual(copies(n, table, live, factor, failed), tuple([(other, each) for other in without(live, failed)]))
        for shard, order in enumerate(table):
            self.assertEqual(cluster.successor(shard, failed), successor(order, live, factor, failed))
        later = cluster.copy()
        self.assertEqual(later.fail(failed), each * (len(live) - 1))
        dropped = drops(n, table, later.live(), factor, failed)
        self.assertEqual(dropped, tuple([(other, each) for other in later.live()]))
        self.assertEqual(later.recover(failed), each * (len(live) - 1))
        self.assertEqual(later, cluster)

    def test_texts_and_desks(self):
        for n, failures, factor in self.cases():
            depth = min(n, failures + factor)
            count = least_lists(n, depth)
            table = standard_table(n, depth, count)
            self.assertEqual(read_table(show_table(n, table)), (n, table))
            cluster = Cluster(n, failures, factor, count)
            for server in range(failures):
                cluster.fail(server)
            text = show_cluster(cluster)
            self.assertEqual(read_cluster(text), cluster)
            desk = Desk(text)
            for shard in range(0, count, 3):
                self.assertEqual(desk.say(f"list {shard}"), " ".join(map(str, list_at(n, depth, count, shard))))
                self.assertEqual(desk.say(f"owners {shard}"), " ".join(map(str, cluster.owners(shard))))
            self.assertEqual(desk.say("text"), text.replace("\n", " | "))

    def test_up_to_sixty_servers(self):
        for n, failures, factor in ((60, 59, 3), (60, 2, 3), (59, 10, 1), (37, 36, 37)):
            depth = min(n, failures + factor)
            count = (10 ** 40 - 1) // least_lists(n, depth) * least_lists(n, depth)
            desk = Desk(f"cluster {n} {failures} {factor} {count}\ndead -")
            cluster = Cluster(n, failures, factor, count)
            for server in range(0, failures, 2):
                self.assertEqual(desk.say(f"fail {server}"), str(cluster.fail(server)))
            for shard in (0, 1, count // 2, count // 7, count - 1):
                order = list_at(n, depth, count, shard)
                self.assertEqual(cluster.owners(shard), holders(order, cluster.live(), factor))
                self.assertEqual(desk.say(f"owners {shard}"), " ".join(map(str, cluster.owners(shard))))
            self.assertEqual(read_cluster(desk.say("text").replace(" | ", "\n")), cluster)


if __name__ == "__main__":
    unittest.main()
