"""Sets of servers and their numbers among the sets of one size."""

from evenfailover.numbers import binomial, check_number, is_plain_int


def is_set(n, thing):
    """Return whether a value is an ascending tuple of servers."""
    if not isinstance(thing, tuple):
        return False
    least = 0
    for server in thing:
        if not is_plain_int(server) or server < least or server >= n:
            return False
        least = server + 1
    return True


def set_at(n, size, number):
    """Return the set of this size with this number."""
    # How many sets have the members so far, and for the rest servers that are left.
    many = binomial(n, size)
    check_number(number, many)
    members = []
    rest = number
    for server in range(n):
        # Every server that is left is in equally many of these sets; those with this one come first.
        first = many * (size - len(members)) // (n - server)
        if rest < first:
            members.append(server)
            many = first
        else:
            rest -= first
            many -= first
    return tuple(members)


def set_number(n, members):
    """Return the number of a set among those of its size."""
    number = 0
    found = 0
    many = binomial(n, len(members))
    for server in range(n):
        # As in `set_at`: so many of the sets that are left have this server, and come before the others.
        first = many * (len(members) - found) // (n - server)
        if found < len(members) and members[found] == server:
            found += 1
            many = first
        else:
            number += first
            many -= first
    return number


def outside(n, members):
    """Return the set of all servers that are not in `members`."""
    taken = set(members)
    others = []
    for server in range(n):
        if server not in taken:
            others.append(server)
    return tuple(others)


def joined(members, server):
    """Return the set with a server added that is not in it."""
    return tuple(sorted(members + (server,)))


def sets_among(servers, size):
    """Return the list of all sets of this size that an ascending tuple of servers contains, ascending."""
    beginnings = [((), 0)]
    for missing in range(size, 0, -1):
        longer = []
        for members, start in beginnings:
            # Only beginnings that enough servers can follow: so there are never more than sets.
            for index in range(start, len(servers) - missing + 1):
                longer.append((members + (servers[index],), index + 1))
        beginnings = longer
    return [members for members, start in beginnings]
