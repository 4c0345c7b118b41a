"""Text formats of tables and clusters."""

from evenfailover.cluster import LEAST_SERVERS, MOST_SERVERS, Cluster
from evenfailover.errors import NoCluster, NoText, NotPossible
from evenfailover.sets import is_set, outside
from evenfailover.tables import MOST_LISTS, is_list

MOST_DIGITS = 40


def show_row(things):
    """Return a row of words, given the words and numbers in it."""
    return " ".join([str(thing) for thing in things])


def show_table(n, table):
    """Return the text of a table."""
    depth = max([len(order) for order in table], default=0)
    rows = [show_row(("table", n, depth))] + [show_row(order) for order in table]
    return "\n".join(rows)


def show_cluster(cluster):
    """Return the text of a cluster."""
    dead = outside(cluster.n, cluster.live())
    if len(dead) == 0:
        dead = ("-",)
    fields = ("cluster", cluster.n, cluster.failures, cluster.factor, cluster.count)
    return "\n".join([show_row(fields), show_row(("dead",) + dead)])


def is_number_word(word):
    """Return whether a word is an integer as it is written in texts."""
    if len(word) > MOST_DIGITS or not word.isascii() or not word.isdigit():
        return False
    return word == "0" or word[0] != "0"


def read_numbers(words):
    """Return the tuple of the integers that these words are, or None if one of them is none."""
    for word in words:
        if not is_number_word(word):
            return None
    return tuple([int(word) for word in words])


def read_fields(row, name, many):
    """Return the so many integers that follow this name in a row, or None if it has another form."""
    words = row.split(" ")
    if words[0] != name or len(words) != many + 1:
        return None
    return read_numbers(words[1:])


def rows_of(text):
    """Return the rows of a text, and raise NoText if it is no string."""
    if not isinstance(text, str):
        raise NoText(0)
    return text.split("\n")


def read_table(text):
    """Return (n, table) of the text of a table."""
    rows = rows_of(text)
    fields = read_fields(rows[0], "table", 2)
    if fields is None:
        raise NoText(0)
    n, depth = fields
    if n < LEAST_SERVERS or n > MOST_SERVERS or depth < 1 or depth > n:
        raise NoText(0)
    table = []
    for row in rows[1:]:
        order = read_numbers(row.split(" "))
        if len(table) >= MOST_LISTS or not is_list(n, depth, order):
            raise NoText(len(table) + 1)
        table.append(order)
    if len(table) == 0:
        raise NoText(len(rows))
    return n, tuple(table)


def read_head(row):
    """Return the cluster of the first row of its text, with all servers live."""
    fields = read_fields(row, "cluster", 4)
    if fields is None:
        raise NoText(0)
    n, failures, factor, count = fields
    try:
        return Cluster(n, failures, factor, count)
    except (NoCluster, NotPossible):
        raise NoText(0) from None


def read_dead(cluster, row):
    """Return the set of the servers that are not live from the second row of a text."""
    if row == "dead -":
        return ()
    words = row.split(" ")
    dead = read_numbers(words[1:])
    if words[0] != "dead" or dead == () or not is_set(cluster.n, dead) or len(dead) > cluster.failures:
        raise NoText(1)
    return dead


def read_cluster(text):
    """Return the cluster of a text, without changes."""
    rows = rows_of(text)
    cluster = read_head(rows[0])
    if len(rows) < 2:
        raise NoText(len(rows))
    dead = read_dead(cluster, rows[1])
    if len(rows) > 2:
        raise NoText(2)
    # Not by failures: these would be changes that can be undone.
    cluster.living = outside(cluster.n, dead)
    return cluster
