"""texts.py: points [54] and [55]."""

import random
import re
import unittest

from any_values import any_values
from checking import Checks
from cluster_model import reach, small_clusters
from evenfailover import texts
from evenfailover.cluster import Cluster
from evenfailover.errors import FailoverError, NoText, NoUndo
from evenfailover.texts import read_cluster, read_table, show_cluster, show_table
from mutations import mutated
from reference import least, random_table, rule_table

INTEGER = re.compile("0|[1-9][0-9]{0,39}")


def integers(words):
    """Return the integers that words are, or None."""
    if not all(INTEGER.fullmatch(word) for word in words):
        return None
    return [int(word) for word in words]


def table_in(text):
    """Return (n, table), or the number of the row that is wrong, by the words of [54] and [55]."""
    rows = text.split("\n")
    head = rows[0].split(" ")
    fields = integers(head[1:])
    if head[0] != "table" or fields is None or len(fields) != 2:
        return 0
    n, depth = fields
    if not (2 <= n <= 60 and 1 <= depth <= n):
        return 0
    table = []
    for number, row in enumerate(rows[1:], start=1):
        order = integers(row.split(" "))
        if order is None or len(order) != depth or len(set(order)) != depth or max(order) >= n or number > 5000:
            return number
        table.append(tuple(order))
    return (n, tuple(table)) if table else len(rows)


def cluster_in(text):
    """Return (n, failures, factor, count, dead), or the number of the row that is wrong."""
    rows = text.split("\n")
    head = rows[0].split(" ")
    fields = integers(head[1:])
    if head[0] != "cluster" or fields is None or len(fields) != 4:
        return 0
    n, failures, factor, count = fields
    if not (2 <= n <= 60 and 1 <= failures < n and 1 <= factor <= n):
        return 0
    if count == 0 or count % least(n, reach(n, failures, factor)) != 0:
        return 0
    if len(rows) == 1:
        return 1
    words = rows[1].split(" ")
    dead = [] if words[1:] == ["-"] else integers(words[1:])
    if words[0] != "dead" or len(words) < 2 or dead is None:
        return 1
    if dead != sorted(set(dead)) or any(server >= n for server in dead) or len(dead) > failures:
        return 1
    return 2 if len(rows) > 2 else (n, failures, factor, count, tuple(dead))


def row_of(function, text):
    """Return the row of the NoText that a call raises, or None if it raises nothing."""
    try:
        function(text)
    except FailoverError as error:
        assert error.__class__ is NoText and list(vars(error)) == ["row"] and error.row.__class__ is int
        return error.row
    return None


def cluster_with_dead(fields, dead):
    cluster = Cluster(*fields)
    for server in dead:
        cluster.fail(server)
    return cluster


class Tables(Checks):
    def test_examples(self):
        self.assertEqual(read_table("table 2 2\n1 0\n0 1"), (2, ((1, 0), (0, 1))))
        self.assert_error(NoText, "row", 2, read_table, "table 3 2\n0 1\n2 2")

    def test_text(self):
        self.assertEqual(show_table(2, ((1, 0), (0, 1))), "table 2 2\n1 0\n0 1")
        self.assertEqual(show_table(60, ((59,), (0,), (10,))), "table 60 1\n59\n0\n10")

    def test_written_and_read_back(self):
        source = random.Random(54)
        for n in (2, 3, 4, 5, 6, 11, 30, 59, 60):
            for depth in sorted({1, 2, n // 2 + 1, n}):
                for many in (1, 2, 30):
                    table = random_table(source, n, depth, many)
                    text = show_table(n, table)
                    self.assertEqual(len(text.split("\n")), many + 1)
                    self.assertEqual(read_table(text), (n, table))
                    self.assertEqual(table_in(text), (n, table))
        table = rule_table(60, 2, 3540)
        self.assertEqual(read_table(show_table(60, table)), (60, table))

    def test_changed_texts(self):
        source = random.Random(55)
        found = {}
        for n in (2, 3, 4, 6, 12, 60):
            for depth in sorted({1, 2, n}):
                for many in (1, 4):
                    text = show_table(n, random_table(source, n, depth, many))
                    for other in mutated(source, text, 60):
                        expected = table_in(other)
                        row = row_of(read_table, other)
                        found[row] = found.get(row, 0) + 1
                        if expected.__class__ is int:
                            self.assertEqual(row, expected, other)
                        else:
                            self.assertIsNone(row, other)
                            self.assertEqual(read_table(other), expected)
        for row in (0, 1, 2, 3, 4, 5, None):
            self.assertGreater(found[row], 20, row)

    def test_first_row(self):
        for head in (
            "", "table", "table 2", "table 2 2 2", "Table 2 2", "table  2 2", "table 2 2 ", " table 2 2", "tables 2 2",
            "table 1 1", "table 0 0", "table 61 2", "table 2 0", "table 2 3", "table 60 61", "table 02 2", "table 2 02",
            "table +2 2", "table -2 2", "table 2 -", "table a 2", "table 2,2", "table\t2 2", "table 2 2\r", "cluster 2 2",
            "table 1" + "0" * 39 + " 1", "table 1" + "0" * 40 + " 1", "table " + "2" * 5000 + " 1",
        ):
            for rest in ("", "\n0 1", "\n0 0", "\n"):
                self.assert_error(NoText, "row", 0, read_table, head + rest)
        for head in ("table 2 1", "table 60 1"):
            self.assertEqual(read_table(head + "\n1")[1], ((1,),))

    def test_rows_that_are_missing(self):
        self.assert_error(NoText, "row", 1, read_table, "table 2 2")
        self.assert_error(NoText, "row", 1, read_table, "table 2 2\n")
        self.assert_error(NoText, "row", 2, read_table, "table 2 2\n0 1\n")
        self.assert_error(NoText, "row", 0, read_table, "")
        self.assert_error(NoText, "row", 0, read_table, "\n")

    def test_lists(self):
        for row in (
            "0", "0 1 2", "0 0", "1 1", "0 3", "3 0", "00 1", "0 01", " 0 1", "0 1 ", "0  1", "0\t1", "-1 0", "0 -", "",
            "a b", "+0 1", "0 1\r", "0 1.0", "0, 1", "0 " + "1" * 40, "0 " + "1" * 41, "0 " + "0" * 40, "0 \u0661",
        ):
            self.assert_error(NoText, "row", 1, read_table, "table 3 2\n" + row)
            self.assert_error(NoText, "row", 3, read_table, "table 3 2\n0 1\n2 0\n" + row)
            self.assert_error(NoText, "row", 3, read_table, "table 3 2\n0 1\n2 0\n" + row + "\n5 5")

    def test_5000_lists_and_one_more(self):
        text = "table 2 1" + "\n1" * 5000
        self.assertEqual(read_table(text), (2, ((1,),) * 5000))
        self.assertEqual(row_of(read_table, text + "\n1"), 5001)
        self.assertEqual(row_of(read_table, text + "\n1\n1"), 5001)
        self.assertEqual(row_of(read_table, text + "\n7\n1"), 5001)
        self.assertEqual(row_of(read_table, text + "\n"), 5001)
        self.assertEqual(row_of(read_table, "table 2 1" + "\n1" * 4999 + "\n2\n1\n1"), 5000)

    def test_values_that_are_no_strings(self):
        for value in any_values():
            if value.__class__ is not str:
                self.assert_error(NoText, "row", 0, read_table, value)
                self.assert_error(NoText, "row", 0, read_table, (value,))


class Clusters(Checks):
    def test_example(self):
        self.assert_error(NoText, "row", 1, read_cluster, "cluster 3 1 1 6\ndead 0 1")

    def test_text(self):
        cluster = Cluster(4, 3, 1, 12)
        self.assertEqual(show_cluster(cluster), "cluster 4 3 1 12\ndead -")
        cluster.fail(2)
        self.assertEqual(show_cluster(cluster), "cluster 4 3 1 12\ndead 2")
        cluster.fail(0)
        self.assertEqual(show_cluster(cluster), "cluster 4 3 1 12\ndead 0 2")
        cluster.undo()
        cluster.undo()
        self.assertEqual(show_cluster(cluster), "cluster 4 3 1 12\ndead -")

    def clusters(self):
        """Return (fields, dead) of small and great clusters."""
        source = random.Random(56)
        found = small_clusters(range(2, 6))
        for n, failures, factor in ((20, 5, 2), (60, 1, 1), (60, 59, 1), (60, 59, 60), (59, 30, 2)):
            one = least(n, reach(n, failures, factor))
            found.extend([(n, failures, factor, one), (n, failures, factor, (10 ** 40 - 1) // one * one)])
        cases = []
        for fields in found:
            for many in sorted({0, 1, fields[1]}):
                cases.append((fields, source.sample(range(fields[0]), many)))
        return cases

    def test_written_and_read_back(self):
        for fields, dead in self.clusters():
            cluster = cluster_with_dead(fields, dead)
            text = show_cluster(cluster)
            self.assertEqual(cluster_in(text), fields + (tuple(sorted(dead)),))
            read = read_cluster(text)
            self.assertIs(read.__class__, Cluster)
            self.assertEqual(read, cluster)
            self.assertEqual(read.live(), cluster.live())
            self.assertEqual((read.changes(), read.copied()), (0, 0))
            self.assertRaises(NoUndo, read.undo)
            self.assertEqual(show_cluster(read), text)

    def test_goes_on_as_the_one_that_was_written(self):
        source = random.Random(57)
        for fields, dead in self.clusters():
            one = cluster_with_dead(fields, dead)
            other = read_cluster(show_cluster(one))
            before = show_cluster(one), one.copied(), one.changes()
            for step in range(10):
                action = source.choice(["fail", "recover"])
                server = source.randrange(fields[0])
                self.assertEqual(self.tried(one, action, server), self.tried(other, action, server))
                shard = source.randrange(fields[3])
                self.assertEqual(one.owners(shard), other.owners(shard))
                self.assertEqual(one, other)
                self.assertEqual(show_cluster(one), show_cluster(other))
            self.assertEqual(one.changes() - before[2], other.changes())
            self.assertEqual(one.copied() - before[1], other.copied())
            while other.changes() > 0:
                self.assertEqual(one.undo(), other.undo())
            self.assertEqual((show_cluster(one), one.copied(), one.changes()), before)
            self.assertEqual(show_cluster(other), before[0])

    def tried(self, cluster, action, server):
        """Return what a change returns or raises."""
        try:
            return cluster.fail(server) if action == "fail" else cluster.recover(server)
        except FailoverError as error:
            return error.__class__, vars(error)

    def test_changed_texts(self):
        source = random.Random(58)
        found = {}
        for fields, dead in self.clusters():
            text = show_cluster(cluster_with_dead(fields, dead))
            for other in mutated(source, text, 25):
                expected = cluster_in(other)
                row = row_of(read_cluster, other)
                found[row] = found.get(row, 0) + 1
                if expected.__class__ is int:
                    self.assertEqual(row, expected, other)
                else:
                    self.assertIsNone(row, other)
                    cluster = read_cluster(other)
                    self.assertEqual(cluster, cluster_with_dead(expected[:4], expected[4]))
        for row in (0, 1, 2, None):
            self.assertGreater(found[row], 100, row)

    def test_first_row(self):
        for head in (
            "", "cluster", "cluster 4 3 1", "cluster 4 3 1 12 1", "Cluster 4 3 1 12", "cluster  4 3 1 12", "cluster 4 3 1 12 ",
            " cluster 4 3 1 12", "cluster 1 1 1 12", "cluster 61 1 1 3660", "cluster 4 0 1 12", "cluster 4 4 1 12",
            "cluster 4 3 0 12", "cluster 4 3 5 12", "cluster 4 3 1 0", "cluster 4 3 1 18", "cluster 4 3 1 13",
            "cluster 04 3 1 12", "cluster 4 03 1 12", "cluster 4 3 01 12", "cluster 4 3 1 012", "cluster 4 3 1 -12",
            "cluster 4 3 1 +12", "cluster 4 3 1 12.0", "cluster 4 3 1 -", "table 4 3", "dead -", "cluster 4 3 1 12\r",
            "cluster 4 3 1 " + "12" * 20 + "0", "cluster 4 3 1 12" + "0" * 39, "cluster " + "1" * 40 + " 3 1 12",
            "cluster 4 " + "1" * 40 + " 1 12", "cluster 4 3 1 " + "1" * 40, "cluster 4 3 1 " + "12" * 3000,
        ):
            for rest in ("", "\ndead -", "\ndead 9", "\ndead -\nx"):
                self.assert_error(NoText, "row", 0, read_cluster, head + rest)

    def test_forty_digits(self):
        for digits in (39, 40):
            count = (10 ** digits - 1) // 12 * 12
            self.assertEqual(len(str(count)), digits)
            cluster = read_cluster(f"cluster 4 3 1 {count}\ndead 1")
            self.assertEqual(cluster.load(0), count // 3)
        count = 12 * 10 ** 39
        self.assertEqual(len(str(count)), 41)
        self.assert_error(NoText, "row", 0, read_cluster, f"cluster 4 3 1 {count}\ndead 1")

    def test_second_row(self):
        for row in (
            "", "dead", "dead ", "dead  -", "dead - ", " dead -", "Dead -", "dead --", "dead - -", "dead 0 -", "dead - 0",
            "dead 4", "dead 0 4", "dead 1 0", "dead 0 0", "dead 0 1 1", "dead 00", "dead 01", "dead -1", "dead +1", "dead a",
            "dead 0 1 2", "dead 0 1 2 3", "dead 0  1", "dead 0 ", "dead\t0", "dead 0\r", "live 0", "-", "0", "dead 0,1",
            "dead " + "1" * 40, "dead " + "1" * 41, "dead " + "0" * 40, "dead \u0661", "dead -\r",
        ):
            self.assert_error(NoText, "row", 1, read_cluster, "cluster 4 2 1 12\n" + row)
            self.assert_error(NoText, "row", 1, read_cluster, "cluster 4 2 1 12\n" + row + "\n")
        for row, live in (("dead -", (0, 1, 2, 3)), ("dead 3", (0, 1, 2)), ("dead 0 3", (1, 2)), ("dead 1 2", (0, 3))):
            self.assertEqual(read_cluster("cluster 4 2 1 12\n" + row).live(), live)

    def test_rows_that_are_missing_or_more(self):
        self.assert_error(NoText, "row", 1, read_cluster, "cluster 4 3 1 12")
        self.assert_error(NoText, "row", 1, read_cluster, "cluster 4 3 1 12\n")
        for rest in ("", "dead -", "x", "\n", "cluster 4 3 1 12"):
            self.assert_error(NoText, "row", 2, read_cluster, "cluster 4 3 1 12\ndead -\n" + rest)
            self.assert_error(NoText, "row", 2, read_cluster, "cluster 4 3 1 12\ndead 1 2\n" + rest)

    def test_values_that_are_no_strings(self):
        for value in any_values():
            if value.__class__ is not str:
                self.assert_error(NoText, "row", 0, read_cluster, value)

    def test_showing_changes_nothing(self):
        cluster = cluster_with_dead((5, 4, 2, 60), [3, 1])
        before = cluster.live(), cluster.copied(), cluster.changes()
        self.assertEqual(show_cluster(cluster), show_cluster(cluster))
        self.assertEqual((cluster.live(), cluster.copied(), cluster.changes()), before)


class Interface(Checks):
    def test_arguments_by_name(self):
        self.assert_same_by_name(show_table, 2, ((1, 0), (0, 1)))
        self.assert_same_by_name(show_cluster, Cluster(4, 3, 1, 12))
        self.assert_same_by_name(read_table, "table 2 2\n1 0\n0 1")
        self.assert_same_by_name(read_cluster, "cluster 4 3 1 12\ndead 0")
        self.assertEqual(show_table(n=2, table=((1, 0),)), "table 2 2\n1 0")
        self.assertEqual(show_cluster(cluster=Cluster(2, 1, 1, 2)), "cluster 2 1 1 2\ndead -")
        self.assertEqual(read_table(text="table 2 2\n1 0"), (2, ((1, 0),)))
        self.assertEqual(read_cluster(text="cluster 2 1 1 2\ndead 0").live(), (1,))

    def test_names_in_their_order_and_file(self):
        self.assert_interface(texts, {
            "show_table": ["n", "table"],
            "show_cluster": ["cluster"],
            "read_table": ["text"],
            "read_cluster": ["text"],
        })


if __name__ == "__main__":
    unittest.main()
