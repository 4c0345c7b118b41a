"""Level numbers: how many lists begin with the servers of a set, followed by a given server."""

from evenfailover.numbers import edge_divisor


def count_level(table, size):
    """Return a dict from every (members, server) of this level whose number is not 0 to its number."""
    many = {}
    for order in table:
        # At a level that the list does not reach, it counts nowhere.
        if size >= 0 and size < len(order):
            edge = (tuple(sorted(order[:size])), order[size])
            many[edge] = many.get(edge, 0) + 1
    return many


def level_numbers(n, table, size):
    """Return ((members, server), many) for all level numbers of this level that are not 0."""
    many = count_level(table, size)
    return tuple([(edge, many[edge]) for edge in sorted(many)])


def is_level(n, table, size):
    """Return whether all level numbers of this level are equal."""
    many = count_level(table, size)
    if len(many) == 0:
        return True
    # Some are not 0, so all are equal only if none of them is missing here.
    if len(many) < edge_divisor(n, size):
        return False
    return min(many.values()) == max(many.values())


def even_reach(n, table):
    """Return the greatest number up to the depth such that all levels below it are level."""
    depth = max([len(order) for order in table], default=0)
    for size in range(depth):
        if not is_level(n, table, size):
            return size
    return depth
