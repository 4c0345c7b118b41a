"""Tables of lists: which values are tables, the standard table, and which servers hold the shards."""

from evenfailover.errors import TooMany, TooShort
from evenfailover.lists import follow, level_widths
from evenfailover.numbers import check_possible, is_plain_int
from evenfailover.sets import sets_among

MOST_LISTS = 5000


def is_list(n, depth, thing):
    """Return whether a value is a list of this depth."""
    if not isinstance(thing, tuple) or len(thing) != depth:
        return False
    seen = set()
    for server in thing:
        if not is_plain_int(server) or server < 0 or server >= n or server in seen:
            return False
        seen.add(server)
    return True


def is_table(n, depth, thing):
    """Return whether a value is a table of this depth."""
    if not isinstance(thing, tuple) or len(thing) == 0:
        return False
    for order in thing:
        if not is_list(n, depth, order):
            return False
    return True


def standard_table(n, depth, count):
    """Return all lists of the standard table in order."""
    check_possible(n, depth, count)
    if count > MOST_LISTS:
        raise TooMany(count)
    widths = level_widths(n, depth, count)
    servers = list(range(n))
    table = []
    for number in range(count):
        order, rest = follow(widths, servers, number)
        table.append(order)
    return tuple(table)


def holders(order, live, factor):
    """Return the servers that hold a shard with this list, in the order of the list."""
    wanted = min(factor, len(live))
    found = []
    for server in order:
        if len(found) >= wanted:
            break
        if server in live:
            found.append(server)
    if len(found) < wanted:
        raise TooShort(order)
    return tuple(found)


def held_by_sets(table, live, factor):
    """Return a dict from the sets that hold shards to how many they hold."""
    held = {}
    for order in table:
        members = tuple(sorted(holders(order, live, factor)))
        held[members] = held.get(members, 0) + 1
    return held


def loads(n, table, live, factor):
    """Return (members, many) for all sets of `factor` live servers: how many shards they hold."""
    held = held_by_sets(table, live, factor)
    return tuple([(members, held.get(members, 0)) for members in sets_among(live, factor)])


def server_loads(n, table, live, factor):
    """Return (server, many) for all live servers: how many shards the server holds."""
    held = {server: 0 for server in live}
    for order in table:
        for server in holders(order, live, factor):
            held[server] += 1
    return tuple([(server, held[server]) for server in live])
