"""What the document says, computed plainly and without the program, to compare the program with."""

import itertools
import math

SMALL = range(2, 7)


def sets_of(n, size):
    """Return all sets of this size in ascending order."""
    return sorted(itertools.combinations(range(n), size))


def live_sets(n):
    """Return all sets of live servers."""
    return [live for size in range(1, n + 1) for live in sets_of(n, size)]


def least(n, depth):
    """Return the least number of lists of an even table with this reach."""
    return math.lcm(*[n * math.comb(n - 1, size) for size in range(depth)])


def small_tables():
    """Return (n, depth, count) for 2 to 6 servers, the least number of lists and its double."""
    return [
        (n, depth, least(n, depth) * times)
        for n in SMALL for depth in range(1, n + 1) for times in (1, 2)
    ]


def great_tables():
    """Return (n, depth, count) for up to 60 servers with counts of up to forty digits."""
    found = []
    for n in (7, 13, 32, 47, 59, 60):
        for depth in sorted({1, 2, 3, n // 2, n - 1, n}):
            one = least(n, depth)
            greatest = (10 ** 40 - 1) // one * one
            found.extend([(n, depth, one), (n, depth, one * 1009), (n, depth, greatest)])
    return found


def great_numbers(count):
    """Return numbers from 0 to count - 1: the ends, those beside them, and some between."""
    between = [count * part // 11 for part in range(11)]
    found = {0, 1, count - 2, count - 1}.union(between)
    return sorted([number for number in found if 0 <= number < count])


def places(n, depth, count, number):
    """Return the list with this number and its places, from () on, by the rule of point [16]."""
    members, rest = (), number
    order, found = [], [(members, rest)]
    for size in range(depth):
        width, over = divmod(count, n * math.comb(n - 1, size))
        assert over == 0
        server = [other for other in range(n) if other not in members][rest // width]
        members = tuple(sorted(members + (server,)))
        rest = width * members.index(server) + rest % width
        assert rest * math.comb(n, size + 1) < count
        order.append(server)
        found.append((members, rest))
    return tuple(order), found


def rule_table(n, depth, count):
    """Return the standard table by the rule of point [16]."""
    return tuple([places(n, depth, count, number)[0] for number in range(count)])


def table_that_reaches(n, depth, reach):
    """Return a table of this depth all of whose levels below the reach are level, and not the next."""
    return tuple([
        order + tuple([server for server in range(n) if server not in order])[:depth - reach]
        for order in rule_table(n, reach, least(n, reach))
    ])


def first_live(order, live, many):
    """Return the first so many live servers of a list, fewer if it has fewer."""
    return tuple([server for server in order if server in live][:many])


def is_even(n, table, failures, factor):
    """Return whether a table is even by the very words of point [5]."""
    for live in live_sets(n):
        if len(live) < n - failures:
            continue
        for many in range(1, min(factor, len(live)) + 1):
            firsts = [tuple(sorted(first_live(order, live, many))) for order in table]
            if len({firsts.count(members) for members in itertools.combinations(live, many)}) > 1:
                return False
    return True


def random_table(source, n, depth, many):
    """Return a table of so many lists from a source of random numbers."""
    return tuple([tuple(source.sample(range(n), depth)) for number in range(many)])
