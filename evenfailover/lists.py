"""The lists of the standard table by their numbers, and their numbers by their places."""

from evenfailover.numbers import binomial, check_number, check_possible


def level_widths(n, depth, count):
    """Return count / edge_divisor(n, size) for all sizes below the depth."""
    widths = []
    edges = n
    for size in range(depth):
        widths.append(count // edges)
        # From n * binomial(n - 1, size) to the next one, which is not worked out anew.
        edges = edges * (n - 1 - size) // (size + 1)
    return widths


def follow(widths, servers, rest):
    """Return the servers that are taken one after the other, and the rest after them.

    The rule of the standard table reads the same in both directions. Forward a server is taken
    from those outside the set and joins the set; backward it is taken from the set and joins
    those outside. `servers` are the ones to take from, ascending.
    """
    left = list(servers)
    taken = []
    for width in widths:
        index = rest // width
        server = left.pop(index)
        taken.append(server)
        # `index` of the servers below this one are where it comes from, the others where it goes:
        # the rest loses width * index and gains width * (server - index).
        rest += width * (server - index - index)
    return tuple(taken), rest


def path(n, depth, count, number):
    """Return list number `number` of the standard table and its rest after all its servers."""
    return follow(level_widths(n, depth, count), list(range(n)), number)


def list_at(n, depth, count, number):
    """Return list number `number` of the standard table."""
    check_possible(n, depth, count)
    check_number(number, count)
    order, rest = path(n, depth, count, number)
    return order


def place_at(n, depth, count, number):
    """Return (members, rest), the place of a list of the standard table after all its servers."""
    check_possible(n, depth, count)
    check_number(number, count)
    order, rest = path(n, depth, count, number)
    return tuple(sorted(order)), rest


def number_at(n, count, members, rest):
    """Return the number of the list that has this place after as many servers as `members` has."""
    size = len(members)
    check_possible(n, size, count)
    check_number(rest, count // binomial(n, size))
    widths = level_widths(n, size, count)
    taken, number = follow(list(reversed(widths)), members, rest)
    return number


def numbers_with(n, count, beginning):
    """Return (first, many) for the numbers of the lists that are equal to `beginning`, or None."""
    check_possible(n, len(beginning), count)
    first, end = 0, count
    # All lists with the same beginning have moved equally far: each rest is the number plus `moved`.
    moved = 0
    left = list(range(n))
    taken = set()
    for server, width in zip(beginning, level_widths(n, len(beginning), count)):
        if server < 0 or server >= n or server in taken:
            return None
        taken.add(server)
        index = left.index(server)
        left.pop(index)
        # The rests from width * index on, `width` of them, lead to this server.
        low = width * index - moved
        if first < low:
            first = low
        if end > low + width:
            end = low + width
        if first >= end:
            return None
        # From the index outside the set to the index inside it, as in `follow`.
        moved += width * (server - index - index)
    return first, end - first
