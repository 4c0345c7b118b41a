"""The counts of an even table by formula."""

from evenfailover.numbers import binomial, check_possible, edge_divisor


def shared(total, parts):
    """Return the equal share of each of so many parts, and 0 if there are none.

    No parts are left only where arguments go beyond their limits, which is no error.
    """
    if parts <= 0:
        return 0
    return total // parts


def held_by_set(n, count, alive, factor):
    """Return how many shards are held by exactly a given set of `factor` live servers."""
    check_possible(n, n - alive + factor, count)
    return shared(count, binomial(alive, factor))


def held_by_server(n, count, alive, factor):
    """Return how many shards a live server holds."""
    check_possible(n, n - alive + factor, count)
    return shared(count * factor, alive)


def copied_to(n, count, alive, factor):
    """Return how many replicas each other live server receives if one live server fails."""
    # The server that receives a replica stands one place behind those that hold the shard.
    check_possible(n, n - alive + factor + 1, count)
    return shared(count * factor, alive * (alive - 1))


def found_at(n, count, alive, factor, index):
    """Return in how many lists the live server number `factor`, from 1, stands at this index."""
    check_possible(n, n - alive + factor, count)
    # So many servers that are not live stand before it.
    dead = index - factor + 1
    if dead < 0 or dead > n - alive:
        return 0
    # The level numbers that this server can have: the sets before it, and itself.
    edges = binomial(alive, factor - 1) * binomial(n - alive, dead) * (alive - factor + 1)
    return edges * shared(count, edge_divisor(n, index))
