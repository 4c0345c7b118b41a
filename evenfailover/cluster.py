"""A cluster: which servers are live, who holds the shards, and changes that can be undone."""

from evenfailover.counts import held_by_server
from evenfailover.errors import NoCluster, NotDead, NotLive, NoUndo, TooFew
from evenfailover.failures import successor as receiver
from evenfailover.lists import path
from evenfailover.numbers import check_number, check_possible, is_plain_int, reach_of
from evenfailover.sets import joined
from evenfailover.tables import holders

LEAST_SERVERS = 2
MOST_SERVERS = 60


def check_field(field, value, least, most):
    """Raise NoCluster if a field of a cluster is not an integer in its range."""
    if not is_plain_int(value) or value < least or value > most:
        raise NoCluster(field)


class Cluster:
    """Shards with the lists of a standard table, on servers that fail and recover."""

    def __init__(self, n, failures, factor, count):
        check_field("n", n, LEAST_SERVERS, MOST_SERVERS)
        check_field("failures", failures, 1, n - 1)
        check_field("factor", factor, 1, n)
        check_possible(n, reach_of(n, failures, factor), count)
        self.n = n
        self.failures = failures
        self.factor = factor
        self.count = count
        self.living = tuple(range(n))
        # For each change its server and what all changes up to it have copied.
        self.past = []

    def live(self):
        """Return the set of the live servers."""
        return self.living

    def list_of(self, shard):
        """Return the list of a shard."""
        check_number(shard, self.count)
        depth = reach_of(self.n, self.failures, self.factor)
        order, rest = path(self.n, depth, self.count, shard)
        return order

    def owners(self, shard):
        """Return the servers that hold a shard, in the order of its list."""
        return holders(self.list_of(shard), self.living, self.factor)

    def load(self, server):
        """Return how many shards a live server holds."""
        self.check_live(server)
        alive = len(self.living)
        return held_by_server(self.n, self.count, alive, min(self.factor, alive))

    def successor(self, shard, server):
        """Return the server that would receive a copy of a shard if a server failed, or None."""
        order = self.list_of(shard)
        self.check_can_fail(server)
        if len(self.living) <= self.factor:
            return None
        return receiver(order, self.living, self.factor, server)

    def fail(self, server):
        """Make a server fail, and return how many replicas are copied."""
        self.check_can_fail(server)
        # Where all live servers hold every shard, there is no other that could receive a copy.
        copied = self.load(server) if len(self.living) > self.factor else 0
        self.turn(server)
        self.past.append((server, self.copied() + copied))
        return copied

    def recover(self, server):
        """Make a server live again, and return how many replicas are copied to it."""
        if not is_plain_int(server) or server < 0 or server >= self.n or server in self.living:
            raise NotDead(server)
        self.turn(server)
        copied = self.load(server)
        self.past.append((server, self.copied() + copied))
        return copied

    def copied(self):
        """Return how many replicas were copied by the changes that were not undone."""
        if len(self.past) == 0:
            return 0
        return self.past[-1][1]

    def changes(self):
        """Return how many failures and recoveries were not undone."""
        return len(self.past)

    def undo(self):
        """Undo the last failure or recovery, and return its server."""
        if len(self.past) == 0:
            raise NoUndo()
        server, copied = self.past.pop()
        self.turn(server)
        return server

    def copy(self):
        """Return an independent cluster that is in the same state."""
        other = Cluster(self.n, self.failures, self.factor, self.count)
        other.living = self.living
        other.past = list(self.past)
        return other

    def turn(self, server):
        """Make a live server not live, and one that is not live a live one."""
        if server in self.living:
            self.living = tuple([other for other in self.living if other != server])
        else:
            self.living = joined(self.living, server)

    def check_live(self, value):
        """Raise NotLive if a value is not a live server."""
        if not is_plain_int(value) or value not in self.living:
            raise NotLive(value)

    def check_can_fail(self, value):
        """Raise NotLive if a value is not a live server, then TooFew if it must stay alive."""
        self.check_live(value)
        if len(self.living) - 1 < self.n - self.failures:
            raise TooFew(len(self.living))

    def __eq__(self, other):
        return (
            isinstance(other, Cluster) and self.n == other.n and self.failures == other.failures
            and self.factor == other.factor and self.count == other.count and self.living == other.living
        )

    def __len__(self):
        return len(self.living)
