"""The lists of the standard table by their numbers, and their numbers by their places."""

from evenfailover.numbers import binomial, check_number, check_possible, edge_divisor


def follow(n, count, sizes, servers, rest):
    """Return the servers that are taken at these sizes, in order, and the rest after them.

    The rule of the standard table reads the same in both directions. Forward a server is taken
    from those outside the set and joins the set; backward it is taken from the set and joins
    those outside. `servers` are the ones to take from, ascending.
    """
    left = list(servers)
    taken = []
    for size in sizes:
        width = count // edge_divisor(n, size)
        index = rest // width
        server = left.pop(index)
        taken.append(server)
        # `index` of the servers below this one are where it comes from, the others where it goes.
        rest = width * (server - index) + rest % width
    return tuple(taken), rest


def path(n, depth, count, number):
    """Return list number `number` of the standard table and its rest after all its servers."""
    return follow(n, count, list(range(depth)), list(range(n)), number)


def list_at(n, depth, count, number):
    """Return list number `number` of the standard table."""
    check_possible(n, depth, count)
    check_number(number, count)
    order, rest = path(n, depth, count, number)
    return order


def place_at(n, depth, count, number):
    """Return (members, rest), the place of a list of the standard table after all its servers."""
    check_possible(n, depth, count)
    check_number(number, count)
    order, rest = path(n, depth, count, number)
    return tuple(sorted(order)), rest


def number_at(n, count, members, rest):
    """Return the number of the list that has this place after as many servers as `members` has."""
    size = len(members)
    check_possible(n, size, count)
    check_number(rest, count // binomial(n, size))
    taken, number = follow(n, count, list(reversed(range(size))), members, rest)
    return number


def numbers_with(n, count, beginning):
    """Return (first, many) for the numbers of the lists that are equal to `beginning`, or None."""
    check_possible(n, len(beginning), count)
    first, end = 0, count
    # All lists with the same beginning have moved equally far: each rest is the number plus `moved`.
    moved = 0
    left = list(range(n))
    for size, server in enumerate(beginning):
        if server not in left:
            return None
        width = count // edge_divisor(n, size)
        index = left.index(server)
        first = max(first, width * index - moved)
        end = min(end, width * (index + 1) - moved)
        if first >= end:
            return None
        # From the index outside the set to the index inside it, as in `follow`.
        moved += width * (server - index - index)
        left.remove(server)
    return first, end - first
