"""Tables from level numbers."""

from evenfailover.errors import TooMany, Unbalanced
from evenfailover.levels import count_level
from evenfailover.sets import joined
from evenfailover.tables import MOST_LISTS, is_table


def entries_above_zero(depth, counts):
    """Return a dict of the entries that tell of lists: those below the depth that are not 0."""
    return {edge: counts[edge] for edge in counts if len(edge[0]) < depth and counts[edge] > 0}


def unbalanced(n, depth, counts):
    """Return None if the counts are balanced, else the first set at which they are not."""
    entries = entries_above_zero(depth, counts)
    # What arrives at each set, less what leaves it.
    left_over = {(): 0}
    for members, server in entries:
        many = entries[(members, server)]
        longer = joined(members, server)
        left_over[members] = left_over.get(members, 0) - many
        left_over[longer] = left_over.get(longer, 0) + many
    if left_over[()] == 0:
        return ()
    wrong = [members for members in left_over if 0 < len(members) < depth and left_over[members] != 0]
    return min(wrong, key=lambda members: (len(members), members), default=None)


def edges_by_level(depth, entries):
    """Return for each level below the depth the ascending list of its (members, server)."""
    levels = [[] for size in range(depth)]
    for members, server in sorted(entries):
        levels[len(members)].append((members, server))
    return levels


def table_from(n, depth, counts):
    """Return a table with exactly these level numbers."""
    wrong = unbalanced(n, depth, counts)
    if wrong is not None:
        raise Unbalanced(wrong)
    entries = entries_above_zero(depth, counts)
    levels = edges_by_level(depth, entries)
    count = sum([entries[edge] for edge in levels[0]])
    if count > MOST_LISTS:
        raise TooMany(count)
    # For each set the beginnings that consist of its servers: as many arrive as are taken on.
    beginnings = {(): [()] * count}
    for edges in levels:
        longer = {}
        for members, server in edges:
            after = longer.setdefault(joined(members, server), [])
            for step in range(entries[(members, server)]):
                after.append(beginnings[members].pop() + (server,))
        beginnings = longer
    table = []
    for members in beginnings:
        table.extend(beginnings[members])
    return tuple(sorted(table))


def shows_table(n, depth, counts, thing):
    """Return whether a value is a table of this depth with exactly these level numbers."""
    if not is_table(n, depth, thing):
        return False
    found = {}
    for size in range(depth):
        numbers = count_level(thing, size)
        for edge in numbers:
            found[edge] = numbers[edge]
    return found == entries_above_zero(depth, counts)
