"""What is copied if a server fails, and what is dropped if it recovers."""

from evenfailover.errors import TooShort
from evenfailover.tables import holders


def successor(order, live, factor, failed):
    """Return the server that receives a copy of the shard with this list if a server fails, or None."""
    found = holders(order, live, factor + 1)
    # No list contains more live servers than there are.
    if len(found) <= factor:
        raise TooShort(order)
    if failed in found[:factor]:
        return found[factor]
    return None


def dropper(order, live, factor, back):
    """Return the live server that drops the shard with this list if a server recovers, or None."""
    held = holders(order, live, factor)
    after = [server for server in order if server in live or server == back][:factor]
    for server in held:
        if server not in after:
            return server
    return None


def tally(servers, picked):
    """Return (server, many) for all these servers: how often each of them was picked."""
    many = {server: 0 for server in servers}
    for server in picked:
        if server is not None:
            many[server] += 1
    return tuple([(server, many[server]) for server in servers])


def copies(n, table, live, factor, failed):
    """Return (server, many) for all other live servers: the replicas that each receives."""
    others = [server for server in live if server != failed]
    return tally(others, [successor(order, live, factor, failed) for order in table])


def drops(n, table, live, factor, back):
    """Return (server, many) for all live servers: the replicas that each drops if `back` recovers."""
    return tally(live, [dropper(order, live, factor, back) for order in table])
