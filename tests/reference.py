"""What the document says, computed plainly and without the program, to compare the program with."""

import itertools
import math

SMALL = range(2, 7)


def sets_of(n, size):
    """Return all sets of this size in ascending order."""
    return sorted(itertools.combinations(range(n), size))


def live_sets(n):
    """Return all sets of live servers."""
    return [live for size in range(1, n + 1) for live in sets_of(n, size)]


def least(n, depth):
    """Return the least number of lists of an even table with this reach."""
    return math.lcm(*[n * math.comb(n - 1, size) for size in range(depth)])


def small_tables():
    """Return (n, depth, count) for 2 to 6 servers, the least number of lists and its double."""
    return [
        (n, depth, least(n, depth) * times)
        for n in SMALL for depth in range(1, n + 1) for times in (1, 2)
    ]


def great_tables():
    """Return (n, depth, count) for up to 60 servers with counts of up to forty digits."""
    found = []
    for n in (7, 13, 32, 47, 59, 60):
        for depth in sorted({1, 2, 3, n // 2, n - 1, n}):
            one = least(n, depth)
            greatest = (10 ** 40 - 1) // one * one
            found.extend([(n, depth, one), (n, depth, one * 1009), (n, depth, greatest)])
    return found


def great_numbers(count):
    """Return numbers from 0 to count - 1: the ends, those beside them, and some between."""
    between = [count * part // 11 for part in range(11)]
    found = {0, 1, count - 2, count - 1}.union(between)
    return sorted([number for number in found if 0 <= number < count])


def places(n, depth, count, number):
    """Return the list with this number and its places, from () on, by the rule of point [16]."""
    members, rest = (), number
    order, found = [], [(members, rest)]
    for size in range(depth):
        width, over = divmod(count, n * math.comb(n - 1, size))
        assert over == 0
        server = [other for other in range(n) if other not in members][rest // width]
        members = tuple(sorted(members + (server,)))
        rest = width * members.index(server) + rest % width
        assert rest * math.comb(n, size + 1) < count
        order.append(server)
        found.append((members, rest))
    return tuple(order), found


def rule_table(n, depth, count):
    """Return the standard table by the rule of point [16]."""
    return tuple([places(n, depth, count, number)[0] for number in range(count)])


def table_that_reaches(n, depth, reach):
    """Return a table of this depth all of whose levels below the reach are level, and not the next."""
    return tuple([
        order + tuple([server for server in range(n) if server not in order])[:depth - reach]
        for order in rule_table(n, reach, least(n, reach))
    ])


def all_level_numbers(table):
    """Return a dict of all level numbers of a table that are not 0."""
    found = {}
    for order in table:
        for size in range(len(order)):
            edge = (tuple(sorted(order[:size])), order[size])
            found[edge] = found.get(edge, 0) + 1
    return found


def first_unbalanced(depth, counts):
    """Return the first set at which counts do not balance by the very words of point [46], or None."""
    leaving = {}
    arriving = {}
    for (members, server), many in counts.items():
        after = tuple(sorted(members + (server,)))
        leaving[members] = leaving.get(members, 0) + many
        arriving[after] = arriving.get(after, 0) + many
    if leaving.get((), 0) == 0:
        return ()
    for members in sorted(set(leaving) | set(arriving), key=lambda members: (len(members), members)):
        if 1 <= len(members) < depth and leaving.get(members, 0) != arriving.get(members, 0):
            return members
    return None


def first_live(order, live, many):
    """Return the first so many live servers of a list, fewer if it has fewer."""
    return tuple([server for server in order if server in live][:many])


def is_even(n, table, failures, factor):
    """Return whether a table is even by the very words of point [5]."""
    for live in live_sets(n):
        if len(live) < n - failures:
            continue
        for many in range(1, min(factor, len(live)) + 1):
            firsts = [tuple(sorted(first_live(order, live, many))) for order in table]
            if len({firsts.count(members) for members in itertools.combinations(live, many)}) > 1:
                return False
    return True


def is_set_of(n, thing):
    """Return whether a value is a set by the very words of points [2] and [3]."""
    if thing.__class__ is not tuple or any(server.__class__ is not int for server in thing):
        return False
    return list(thing) == sorted(set(thing)) and all(0 <= server < n for server in thing)


def is_witness(n, table, failures, factor, thing):
    """Return whether a value is a witness by the very words of point [28]."""
    if thing.__class__ is not tuple or len(thing) != 3:
        return False
    if not all(is_set_of(n, members) for members in thing):
        return False
    live, fewer, more = thing
    if len(live) < max(1, n - failures) or not set(fewer + more) <= set(live):
        return False
    many = len(fewer)
    if len(more) != many or not 1 <= many <= min(factor, len(live)):
        return False
    firsts = [tuple(sorted(first_live(order, live, many))) for order in table]
    return firsts.count(fewer) < firsts.count(more)


def failures_and_factors(n, depth):
    """Return (failures, factor, reach) for all failures and factors whose reach the depth allows."""
    found = [
        (failures, factor, min(n, failures + factor))
        for failures in range(1, n) for factor in range(1, n + 1)
    ]
    return [(failures, factor, reach) for failures, factor, reach in found if reach <= depth]


def all_lists(n, depth):
    """Return the table of all lists of this depth, each once."""
    return tuple(itertools.permutations(range(n), depth))


def rotations(n, depth):
    """Return the table of the n rotations of all servers, cut to this depth."""
    return tuple([tuple([(start + step) % n for step in range(depth)]) for start in range(n)])


def renamed(table, names):
    """Return a table with each server renamed."""
    return tuple([tuple([names[server] for server in order]) for order in table])


def tables_beside(source, n, table):
    """Return tables that differ a little from a table: changed, left out, repeated, in another order, renamed."""
    depth = len(table[0])
    at = source.randrange(len(table))
    other = tuple(source.sample(range(n), depth))
    swapped = list(table[at])
    swapped[-1], swapped[-2 % depth] = swapped[-2 % depth], swapped[-1]
    found = [
        table[:at] + (other,) + table[at + 1:],
        table[:at] + (tuple(swapped),) + table[at + 1:],
        table + table[at:at + 1],
        tuple(source.sample(table, len(table))),
        renamed(table, source.sample(range(n), n)),
        table + table,
    ]
    if len(table) > 1:
        found.append(table[:at] + table[at + 1:])
    return found


def random_table(source, n, depth, many):
    """Return a table of so many lists from a source of random numbers."""
    return tuple([tuple(source.sample(range(n), depth)) for number in range(many)])
