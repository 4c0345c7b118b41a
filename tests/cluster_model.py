"""A cluster as the document says it, shard by shard, to compare the program's with."""

from reference import first_live, least, rule_table


def reach(n, failures, factor):
    return min(n, failures + factor)


def small_clusters(sizes):
    """Return (n, failures, factor, count) for all failures and factors, the least count and its double."""
    return [
        (n, failures, factor, least(n, reach(n, failures, factor)) * times)
        for n in sizes for failures in range(1, n) for factor in range(1, n + 1) for times in (1, 2)
    ]


class Model:
    def __init__(self, n, failures, factor, count):
        self.n, self.failures, self.factor, self.count = n, failures, factor, count
        self.table = rule_table(n, reach(n, failures, factor), count)
        self.live = tuple(range(n))
        # (server, replicas copied, live servers before)
        self.past = []

    def held(self, live):
        """Return the holders of each shard."""
        return [first_live(order, live, self.factor) for order in self.table]

    def owners(self, shard):
        return first_live(self.table[shard], self.live, self.factor)

    def load(self, server):
        return sum([server in servers for servers in self.held(self.live)])

    def stay(self, server):
        return tuple([other for other in self.live if other != server])

    def may_fail(self):
        return len(self.live) - 1 >= self.n - self.failures

    def successor(self, shard, server):
        before = self.owners(shard)
        after = first_live(self.table[shard], self.stay(server), self.factor)
        new = sorted(set(after) - set(before))
        return new[0] if new else None

    def change(self, server, live):
        """Make these servers live, and return how many replicas are copied: those that are new."""
        before, after = self.held(self.live), self.held(live)
        copied = sum([len(set(new) - set(old)) for old, new in zip(before, after)])
        self.past.append((server, copied, self.live))
        self.live = live
        return copied

    def fail(self, server):
        return self.change(server, self.stay(server))

    def recover(self, server):
        return self.change(server, tuple(sorted(self.live + (server,))))

    def undo(self):
        server, copied, self.live = self.past.pop()
        return server

    def copied(self):
        return sum([copied for server, copied, live in self.past])
