"""Tables judged: whether they are even, and witnesses that they are not."""

from evenfailover.errors import TooShort
from evenfailover.levels import count_level, is_level
from evenfailover.numbers import reach_of
from evenfailover.sets import is_set, joined, outside
from evenfailover.tables import held_by_sets, loads


def check_reached(n, table, failures, factor):
    """Raise TooShort with the first list if the lists are shorter than the reach."""
    for order in table[:1]:
        if len(order) < reach_of(n, failures, factor):
            raise TooShort(order)


def first_uneven_level(n, table, failures, factor):
    """Return the first level below the reach that is not level, or None."""
    for size in range(reach_of(n, failures, factor)):
        if not is_level(n, table, size):
            return size
    return None


def is_even(n, table, failures, factor):
    """Return whether a table is even."""
    check_reached(n, table, failures, factor)
    return first_uneven_level(n, table, failures, factor) is None


def servers_by_level_number(table, size):
    """Return size + 1 servers, each by how many lists it follows all the others in, the fewest first.

    They belong to the greatest level number, so where the level is not level, not all of them
    follow the others in as many lists as the average.
    """
    numbers = count_level(table, size)
    members, last = max(list(numbers), key=lambda edge: numbers[edge])
    servers = joined(members, last)

    def number_of(server):
        others = tuple([other for other in servers if other != server])
        return numbers.get((others, server), 0)

    return tuple(sorted(servers, key=number_of))


def unequal_sets(n, table, live, size):
    """Return (fewer, more), two sets of so many live servers that hold unequally many shards, or None."""
    rows = loads(n, table, live, size)
    fewer, least = min(rows, key=lambda row: row[1])
    more, most = max(rows, key=lambda row: row[1])
    if least == most:
        return None
    return fewer, more


def witness_at(n, table, size, factor):
    """Return a witness, given that `size` is the first level that is not level.

    Let D be servers that are not live and R live servers, size + 1 in all. As the levels below
    are level, R holds a fixed number of shards plus the level numbers that end in a server of
    R, the others of D and R before it. So R holds another number than the average if these
    level numbers do not add up to their average, and of `servers`, the first or the last do not.
    """
    servers = servers_by_level_number(table, size)
    # At level 0 no server need fail. Otherwise one must, or more if the factor is too small.
    dead = 0 if size == 0 else max(1, size + 1 - factor)
    held = size + 1 - dead
    for failed in (servers[held:], servers[:dead]):
        live = outside(n, failed)
        pair = unequal_sets(n, table, live, held)
        if pair is not None:
            return live, pair[0], pair[1]
    return None


def uneven(n, table, failures, factor):
    """Return None if a table is even, else a witness that `shows_uneven` accepts."""
    check_reached(n, table, failures, factor)
    size = first_uneven_level(n, table, failures, factor)
    if size is None:
        return None
    return witness_at(n, table, size, factor)


def is_claim(n, failures, factor, thing):
    """Return whether a value is (live, fewer, more) with sets of sizes that a witness can have."""
    if not isinstance(thing, tuple) or len(thing) != 3:
        return False
    for members in thing:
        if not is_set(n, members):
            return False
    live, fewer, more = thing
    if len(live) < n - failures or len(set(fewer + more) - set(live)) > 0:
        return False
    return len(fewer) == len(more) and 1 <= len(fewer) <= min(factor, len(live))


def shows_uneven(n, table, failures, factor, thing):
    """Return whether a value is a witness that a table is not even."""
    check_reached(n, table, failures, factor)
    if not is_claim(n, failures, factor, thing):
        return False
    live, fewer, more = thing
    held = held_by_sets(table, live, len(fewer))
    return held.get(fewer, 0) < held.get(more, 0)
