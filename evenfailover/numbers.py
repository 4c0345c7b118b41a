"""Which numbers of lists an even table can have."""

from evenfailover.errors import NoNumber, NotPossible


def is_plain_int(thing):
    """Return whether a value is an integer in the document's sense."""
    return isinstance(thing, int) and not isinstance(thing, bool)


def binomial(n, k):
    """Return the number of k-element subsets of n things."""
    if k < 0 or k > n:
        return 0
    result = 1
    # The row is the same from both ends; the nearer end takes fewer steps.
    for step in range(1, min(k, n - k) + 1):
        # The product is binomial(n, step) * step, so the division is exact.
        result = result * (n + 1 - step) // step
    return result


def edge_divisor(n, size):
    """Return the number of level numbers at the level `size`."""
    return n * binomial(n - 1, size)


def greatest_divisor(a, b):
    """Return the greatest common divisor of two integers from 0."""
    while b > 0:
        a, b = b, a % b
    return a


def least_multiple(a, b):
    """Return the least common multiple of two integers from 0, which is 0 if one of them is."""
    divisor = greatest_divisor(a, b)
    if divisor == 0:
        return 0
    return a // divisor * b


def level_parts(n, depth):
    """Return integers whose common multiples are those of edge_divisor(n, size), sizes below the depth.

    1 / edge_divisor(n, size) is 1 / edge_divisor(n - 1, size - 1) minus 1 / edge_divisor(n, size - 1).
    So these fractions are sums and differences of 1 / n, 1 / (n - 1), .., 1 / (n - size), and
    these are sums of those: a number that makes the ones whole makes the others whole. Above n
    a depth has a level without level numbers, and 0 is among the integers there, too.
    """
    return list(range(n, n - depth, -1))


def least_lists(n, depth):
    """Return the least number of lists of an even table whose reach is `depth`."""
    least = 1
    for part in level_parts(n, depth):
        least = least_multiple(least, part)
    return least


def is_possible(n, depth, count):
    """Return whether an even table whose reach is `depth` can have `count` lists."""
    if not is_plain_int(count) or count <= 0 or depth > n:
        return False
    for part in level_parts(n, depth):
        if count % part != 0:
            return False
    return True


def reach_of(n, failures, factor):
    """Return how many servers of a list matter for so many failures and this factor."""
    return min(n, failures + factor)


def check_possible(n, depth, count):
    """Raise NotPossible if no even table whose reach is `depth` can have `count` lists."""
    if not is_possible(n, depth, count):
        raise NotPossible(count)


def check_number(value, many):
    """Raise NoNumber if a value is not the number of one of `many` things."""
    if not is_plain_int(value) or value < 0 or value >= many:
        raise NoNumber(value)
