"""sets.py: points [3] and [12] to [15]."""

import copy
import inspect
import itertools
import math
import unittest

from any_values import nested, not_integers
from evenfailover import sets
from evenfailover.errors import NoNumber
from evenfailover.sets import is_set, outside, set_at, set_number, sets_among
from reference import sets_of

SMALL = range(2, 9)


def large_sets():
    """Return sets of up to 60 servers: ends, middles and scattered ones, each with its n."""
    found = []
    for n in (13, 31, 59, 60):
        for size in (0, 1, 2, n // 2, n - 1, n):
            found.append((n, tuple(range(size))))
            found.append((n, tuple(range(n - size, n))))
        for step in (2, 3, 7):
            for start in range(step):
                found.append((n, tuple(range(start, n, step))))
    return found


def numbers_to_try(many):
    """Return numbers from 0 to many - 1: the ends and some between."""
    between = [many * part // 17 for part in range(17)]
    return sorted({number for number in [0, 1, many - 2, many - 1] + between if 0 <= number < many})


class IsSet(unittest.TestCase):
    def test_example(self):
        self.assertIs(is_set(4, (0, 2, 2)), False)

    def test_every_small_tuple(self):
        for n in range(2, 5):
            for length in range(5):
                for thing in itertools.product(range(-1, n + 1), repeat=length):
                    expected = thing in sets_of(n, length)
                    self.assertIs(is_set(n, thing), expected, (n, thing))

    def test_empty_and_full(self):
        for n in range(2, 61):
            self.assertIs(is_set(n, ()), True)
            self.assertIs(is_set(n, tuple(range(n))), True)
            self.assertIs(is_set(n, tuple(range(n + 1))), False)

    def test_large_sets(self):
        for n, members in large_sets():
            self.assertIs(is_set(n, members), True, members)

    def test_not_ascending_or_repeated(self):
        for thing in ((1, 0), (0, 2, 1), (0, 0), (0, 1, 1), (3, 2, 1, 0), (0, 1, 2, 0)):
            self.assertIs(is_set(4, thing), False, thing)

    def test_servers_out_of_range(self):
        for thing in ((4,), (0, 4), (-1,), (-1, 0), (10 ** 40,), (-(10 ** 40), 0)):
            self.assertIs(is_set(4, thing), False, thing)

    def test_bools_among_the_servers(self):
        for thing in ((True,), (False,), (False, True), (0, True), (False, 1), (0, True, 2), (True, 2)):
            self.assertIs(is_set(4, thing), False, thing)

    def test_no_tuples(self):
        for thing in ([], [0], [0, 1], {}, {0: 1}, "", "01", None, True, False, 0, 1, -1):
            self.assertIs(is_set(4, thing), False, thing)

    def test_other_things_in_a_tuple(self):
        for inner in not_integers():
            for thing in ((inner,), (0, inner), (inner, 3), (0, inner, 3)):
                self.assertIs(is_set(4, thing), False, thing)

    def test_nested(self):
        for thing in (((0,),), ((0, 1),), ((),), (0, (1,)), ([0, 1],), nested(20), (nested(19),)):
            self.assertIs(is_set(4, thing), False, thing)

    def test_value_stays_as_it_was(self):
        for thing in ([1, 0], (0, [1]), {0: [1]}, [[2], {"a": (1,)}]):
            before = copy.deepcopy(thing)
            is_set(4, thing)
            self.assertEqual(thing, before)


class SetAt(unittest.TestCase):
    def test_examples(self):
        self.assertEqual(set_at(4, 2, 3), (1, 2))
        with self.assertRaises(NoNumber) as caught:
            set_at(4, 2, 6)
        self.assertEqual(caught.exception.value, 6)

    def test_all_small_sets_in_order(self):
        for n in SMALL:
            for size in range(n + 1):
                found = [set_at(n, size, number) for number in range(math.comb(n, size))]
                self.assertEqual(found, sets_of(n, size), (n, size))

    def test_result_is_a_set(self):
        for n, size in ((60, 1), (60, 30), (59, 7), (60, 59), (60, 60)):
            for number in numbers_to_try(math.comb(n, size)):
                members = set_at(n, size, number)
                self.assertIs(is_set(n, members), True)
                self.assertEqual(len(members), size)

    def test_large_numbers_ascend(self):
        for n, size in ((60, 30), (60, 5), (59, 50)):
            found = [set_at(n, size, number) for number in numbers_to_try(math.comb(n, size))]
            self.assertEqual(found, sorted(set(found)))

    def test_large_neighbours(self):
        self.assertEqual(set_at(60, 30, 0), tuple(range(30)))
        self.assertEqual(set_at(60, 30, 1), tuple(range(29)) + (30,))
        self.assertEqual(set_at(60, 30, math.comb(60, 30) - 1), tuple(range(30, 60)))

    def test_empty_and_full(self):
        for n in range(2, 61):
            self.assertEqual(set_at(n, 0, 0), ())
            self.assertEqual(set_at(n, n, 0), tuple(range(n)))

    def assert_no_number(self, n, size, number):
        with self.assertRaises(NoNumber) as caught:
            set_at(n, size, number)
        self.assertIs(caught.exception.value, number)

    def test_numbers_too_great(self):
        for n in (2, 3, 4, 7, 60):
            for size in (0, 1, n // 2, n - 1, n):
                many = math.comb(n, size)
                for number in (many, many + 1, many * 2, 10 ** 39 + many):
                    self.assert_no_number(n, size, number)

    def test_numbers_below_zero(self):
        for n in (2, 4, 60):
            for size in (0, 1, n):
                for number in (-1, -2, -(10 ** 39)):
                    self.assert_no_number(n, size, number)

    def test_values_that_are_no_integers(self):
        for n, size in ((2, 0), (2, 1), (4, 2), (60, 30), (60, 60)):
            for number in not_integers():
                before = copy.deepcopy(number)
                self.assert_no_number(n, size, number)
                self.assertEqual(number, before)

    def test_somewhat_beyond(self):
        self.assert_no_number(4, 5, 0)
        self.assert_no_number(4, -1, 0)
        self.assertEqual(set_at(66, 2, math.comb(66, 2) - 1), (64, 65))


class SetNumber(unittest.TestCase):
    def test_example(self):
        self.assertEqual(set_number(4, (1, 2)), 3)

    def test_all_small_sets(self):
        for n in SMALL:
            for size in range(n + 1):
                found = [set_number(n, members) for members in sets_of(n, size)]
                self.assertEqual(found, list(range(math.comb(n, size))), (n, size))

    def test_back_from_the_number(self):
        for n, size in ((60, 0), (60, 1), (60, 30), (60, 59), (60, 60), (59, 7)):
            for number in numbers_to_try(math.comb(n, size)):
                self.assertEqual(set_number(n, set_at(n, size, number)), number)

    def test_back_from_the_set(self):
        for n, members in large_sets():
            number = set_number(n, members)
            self.assertEqual(set_at(n, len(members), number), members)

    def test_ends(self):
        self.assertEqual(set_number(60, tuple(range(30))), 0)
        self.assertEqual(set_number(60, tuple(range(30, 60))), math.comb(60, 30) - 1)
        for server in range(60):
            self.assertEqual(set_number(60, (server,)), server)


class Outside(unittest.TestCase):
    def test_example(self):
        self.assertEqual(outside(4, (0, 2)), (1, 3))

    def test_empty_and_full(self):
        for n in range(2, 61):
            self.assertEqual(outside(n, ()), tuple(range(n)))
            self.assertEqual(outside(n, tuple(range(n))), ())

    def test_all_small_sets(self):
        for n in SMALL:
            for size in range(n + 1):
                for members in sets_of(n, size):
                    others = outside(n, members)
                    self.assertIs(is_set(n, others), True)
                    self.assertEqual(sorted(members + others), list(range(n)))
                    self.assertEqual(outside(n, others), members)

    def test_large_sets(self):
        for n, members in large_sets():
            others = outside(n, members)
            self.assertIs(is_set(n, others), True)
            self.assertEqual(sorted(members + others), list(range(n)))
            self.assertEqual(outside(n, others), members)


class SetsAmong(unittest.TestCase):
    def test_all_small_sets(self):
        for n in SMALL:
            for servers in sets_of(n, n // 2) + sets_of(n, n):
                for size in range(n + 2):
                    expected = sorted(itertools.combinations(servers, size))
                    self.assertEqual(sets_among(servers, size), expected, (servers, size))

    def test_few_sets_of_many_servers(self):
        for size in (1, 2, 58, 59, 60):
            self.assertEqual(sets_among(tuple(range(60)), size), sets_of(60, size))


class Interface(unittest.TestCase):
    def test_arguments_by_name(self):
        self.assertIs(is_set(n=4, thing=(0, 2)), True)
        self.assertEqual(set_at(n=4, size=2, number=3), (1, 2))
        self.assertEqual(set_at(number=3, size=2, n=4), (1, 2))
        self.assertEqual(set_number(n=4, members=(1, 2)), 3)
        self.assertEqual(outside(n=4, members=(0, 2)), (1, 3))
        with self.assertRaises(NoNumber) as caught:
            set_at(n=4, size=2, number=6)
        self.assertEqual(caught.exception.value, 6)

    def test_names_in_their_order_and_file(self):
        expected = {
            "is_set": ["n", "thing"],
            "set_at": ["n", "size", "number"],
            "set_number": ["n", "members"],
            "outside": ["n", "members"],
        }
        for name, parameters in expected.items():
            function = getattr(sets, name)
            self.assertEqual(list(inspect.signature(function).parameters), parameters)
            self.assertEqual(function.__module__, "evenfailover.sets")


if __name__ == "__main__":
    unittest.main()
