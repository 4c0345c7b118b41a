"""Weighted servers: each is first in its weight's share of the lists, whichever servers are alive."""

from evenfailover.errors import NotPossible, TooMany
from evenfailover.flows import shows_table, table_from
from evenfailover.numbers import greatest_divisor, is_plain_int, least_multiple
from evenfailover.sets import outside, sets_among
from evenfailover.tables import MOST_LISTS


def share(numerator, denominator):
    """Return a share in lowest terms."""
    divisor = greatest_divisor(numerator, denominator)
    return numerator // divisor, denominator // divisor


def first_share(weights, live, server):
    """Return the share of the lists whose first live server is this one."""
    total = sum([weights[other] for other in live])
    if total == 0:
        # Only weights below the limit have no sum: such servers come first equally often.
        return share(1, len(live))
    return share(weights[server], total)


def level_share(weights, members, server):
    """Return the level number of every weighted table, divided by the number of its lists."""
    others = outside(len(weights), members)
    numerator, denominator = 0, 1
    sign = 1
    for size in range(len(members) + 1):
        for subset in sets_among(members, size):
            part, whole = first_share(weights, others + subset, server)
            common = least_multiple(denominator, whole)
            numerator = numerator * (common // denominator) + sign * part * (common // whole)
            denominator = common
        sign = -sign
    return share(numerator, denominator)


def level_shares(weights):
    """Return a dict from every (members, server) to its level share."""
    servers = tuple(range(len(weights)))
    shares = {}
    for size in range(len(weights)):
        for members in sets_among(servers, size):
            for server in outside(len(weights), members):
                shares[(members, server)] = level_share(weights, members, server)
    return shares


def least_count(shares):
    """Return the least number of lists of which all these shares are whole numbers."""
    least = 1
    for edge in shares:
        least = least_multiple(least, shares[edge][1])
    return least


def level_counts(shares, count):
    """Return a dict from every (members, server) to its level number in a table of so many lists."""
    return {edge: shares[edge][0] * count // shares[edge][1] for edge in shares}


def least_weighted(weights):
    """Return the least number of lists of a weighted table."""
    return least_count(level_shares(weights))


def weighted_table(weights, count):
    """Return a weighted table with this number of lists."""
    shares = level_shares(weights)
    if not is_plain_int(count) or count <= 0 or count % least_count(shares) != 0:
        raise NotPossible(count)
    if count > MOST_LISTS:
        raise TooMany(count)
    return table_from(len(weights), len(weights), level_counts(shares, count))


def is_weighted(weights, table):
    """Return whether a table is weighted.

    The first live servers of a table determine its level numbers and are determined by them,
    so a table is weighted exactly if its level numbers are the shares of its lists.
    """
    shares = level_shares(weights)
    if len(table) % least_count(shares) != 0:
        return False
    return shows_table(len(weights), len(weights), level_counts(shares, len(table)), table)
