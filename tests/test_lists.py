"""lists.py: points [16] to [20]."""

import itertools
import math
import random
import unittest

from any_values import not_integers
from checking import Checks
from evenfailover import lists
from evenfailover.errors import NoNumber, NotPossible
from evenfailover.lists import list_at, number_at, numbers_with, place_at
from reference import great_numbers, great_tables, least, places, rule_table, sets_of, small_tables


def bad_counts(n, depth):
    """Return values that are no possible count at this depth."""
    one = least(n, depth)
    near = [0, -1, -one, -2 * one, one - 1, one + 1, 3 * one + 1, 10 ** 39 // one * one + 1, one // 2]
    return near + not_integers()


def bad_numbers(many):
    """Return values that number none of so many things."""
    return [-1, -2, -many, many, many + 1, 2 * many, 10 ** 41] + not_integers()


def lists_before(n, count, beginning, equal_too):
    """Return how many lists of the standard table come before this list, found by halving."""
    low, high = 0, count
    while low < high:
        middle = (low + high) // 2
        order = places(n, len(beginning), count, middle)[0]
        if order < beginning or (equal_too and order == beginning):
            low = middle + 1
        else:
            high = middle
    return low


class Rule(Checks):
    def test_examples(self):
        self.assertEqual(list_at(4, 4, 12, 0), (0, 1, 3, 2))
        self.assertEqual(list_at(4, 2, 12, 11), (3, 2))
        self.assertEqual(place_at(4, 2, 12, 0), ((0, 1), 1))

    def check(self, n, depth, count, number):
        order, found = places(n, depth, count, number)
        self.assertEqual(list_at(n, depth, count, number), order, (n, depth, count, number))
        self.assertEqual(place_at(n, depth, count, number), found[-1], (n, depth, count, number))

    def test_small_tables_step_by_step(self):
        for n, depth, count in small_tables():
            for number in range(count):
                self.check(n, depth, count, number)

    def test_great_tables_step_by_step(self):
        for n, depth, count in great_tables():
            for number in great_numbers(count):
                self.check(n, depth, count, number)

    def test_first_and_last_list(self):
        for n, depth, count in small_tables() + great_tables():
            self.assertEqual(list_at(n, depth, count, 0)[0], 0)
            self.assertEqual(list_at(n, depth, count, count - 1)[0], n - 1)

    def test_lists_ascend(self):
        for n, depth, count in small_tables():
            found = [list_at(n, depth, count, number) for number in range(count)]
            self.assertEqual(found, sorted(found), (n, depth, count))
        for n, depth, count in great_tables():
            found = [list_at(n, depth, count, number) for number in great_numbers(count)]
            self.assertEqual(found, sorted(found), (n, depth, count))

    def test_lists_have_different_servers(self):
        for n, depth, count in small_tables() + great_tables():
            for number in great_numbers(count):
                order = list_at(n, depth, count, number)
                self.assertIs(order.__class__, tuple)
                self.assertEqual(len(order), depth)
                self.assertEqual(len(set(order)), depth)
                self.assertTrue(set(order) <= set(range(n)))

    def test_equal_lists_are_neighbours(self):
        for n, depth, count in small_tables():
            found = [list_at(n, depth, count, number) for number in range(count)]
            self.assertEqual(len(list(itertools.groupby(found))), len(set(found)), (n, depth, count))

    def test_deeper_lists_begin_with_the_others(self):
        for n, depth, count in ((4, 4, 12), (5, 5, 60), (60, 60, least(60, 60) * 12345)):
            for number in great_numbers(count):
                order = list_at(n, depth, count, number)
                for shorter in range(1, depth):
                    self.assertEqual(list_at(n, shorter, count, number), order[:shorter])

    def test_somewhat_beyond(self):
        self.assertEqual(list_at(61, 2, 3660, 3659), (60, 59))
        self.assertEqual(list_at(4, 0, 12, 5), ())
        self.assertEqual(place_at(4, 0, 12, 5), ((), 5))
        for depth in (5, 6):
            self.assert_error(NotPossible, "count", 12, list_at, 4, depth, 12, 0)


class Places(Checks):
    def test_examples(self):
        self.assertEqual(number_at(4, 12, (0, 1), 0), 3)
        members, rest = place_at(4, 3, 24, 17)
        self.assertEqual(number_at(4, 24, members, rest), 17)

    def test_numbers_and_places_correspond(self):
        for n, depth, count in small_tables():
            found = {place_at(n, depth, count, number): number for number in range(count)}
            every = [
                (members, rest)
                for members in sets_of(n, depth) for rest in range(count // math.comb(n, depth))
            ]
            self.assertEqual(sorted(found), every, (n, depth, count))
            for members, rest in every:
                self.assertEqual(number_at(n, count, members, rest), found[members, rest])

    def test_every_place_on_the_way(self):
        for n, depth, count in small_tables() + great_tables():
            for number in great_numbers(count)[::3]:
                for members, rest in places(n, depth, count, number)[1][1:]:
                    self.assertEqual(number_at(n, count, members, rest), number, (n, count, members))

    def test_great_places_and_back(self):
        for n, depth, count in great_tables():
            many = count // math.comb(n, depth)
            for members in (tuple(range(depth)), tuple(range(n - depth, n)), tuple(range(0, n, 2))[:depth]):
                if len(members) == depth:
                    for rest in great_numbers(many):
                        number = number_at(n, count, members, rest)
                        self.assertTrue(0 <= number < count)
                        self.assertEqual(place_at(n, depth, count, number), (members, rest))

    def test_somewhat_beyond(self):
        self.assertEqual(number_at(4, 12, (), 7), 7)
        members, rest = place_at(63, 5, least(63, 5), 1234567)
        self.assertEqual(number_at(63, least(63, 5), members, rest), 1234567)


class Beginnings(Checks):
    def test_examples(self):
        self.assertEqual(numbers_with(4, 12, (2,)), (6, 3))
        self.assertIsNone(numbers_with(4, 12, (0, 1, 2)))

    def test_all_beginnings_of_small_tables(self):
        missing = 0
        for n, depth, count in small_tables():
            table = rule_table(n, depth, count)
            for beginning in itertools.permutations(range(n), depth):
                found = numbers_with(n, count, beginning)
                if beginning in table:
                    self.assertEqual(found, (table.index(beginning), table.count(beginning)), beginning)
                else:
                    missing += 1
                    self.assertIsNone(found, (n, count, beginning))
        self.assertGreater(missing, 100)

    def test_great_tables(self):
        for n, depth, count in great_tables():
            for number in great_numbers(count):
                beginning = list_at(n, depth, count, number)
                first, many = numbers_with(n, count, beginning)
                self.assertTrue(first <= number < first + many)
                self.assertEqual(list_at(n, depth, count, first), beginning)
                self.assertEqual(list_at(n, depth, count, first + many - 1), beginning)
                if first > 0:
                    self.assertLess(list_at(n, depth, count, first - 1), beginning)
                if first + many < count:
                    self.assertGreater(list_at(n, depth, count, first + many), beginning)

    def test_first_and_last_number_of_great_tables(self):
        for n, depth, count in great_tables():
            self.assertEqual(numbers_with(n, count, list_at(n, depth, count, 0))[0], 0)
            first, many = numbers_with(n, count, list_at(n, depth, count, count - 1))
            self.assertEqual(first + many, count)

    def test_one_server(self):
        for n in (2, 7, 60):
            count = n * (10 ** 38 + 7)
            for server in range(n):
                self.assertEqual(numbers_with(n, count, (server,)), (server * count // n, count // n))

    def test_great_beginnings_that_some_or_no_lists_have(self):
        source = random.Random(20)
        missing = 0
        for n, depth, count in great_tables():
            beginning = tuple(source.sample(range(n), depth))
            first = lists_before(n, count, beginning, False)
            many = lists_before(n, count, beginning, True) - first
            missing += many == 0
            expected = (first, many) if many > 0 else None
            self.assertEqual(numbers_with(n, count, beginning), expected, (n, count, beginning))
        self.assertGreater(missing, 10)

    def test_somewhat_beyond(self):
        self.assertEqual(numbers_with(4, 12, ()), (0, 12))
        self.assertIsNone(numbers_with(4, 12, (4,)))
        self.assertIsNone(numbers_with(4, 12, (-1,)))
        self.assertEqual(numbers_with(61, 61, (60,)), (60, 1))
        self.assert_error(NotPossible, "count", 12, numbers_with, 4, 12, (0, 1, 2, 3, 4))


class Errors(Checks):
    def test_examples(self):
        self.assert_error(NotPossible, "count", 18, list_at, 4, 4, 18, None)
        self.assert_error(NoNumber, "value", 12, list_at, 4, 2, 12, 12)

    def test_counts_that_are_not_possible(self):
        for n, depth in ((2, 1), (2, 2), (3, 2), (4, 3), (6, 6), (60, 1), (60, 60)):
            beginning = tuple(range(depth))
            for count in bad_counts(n, depth):
                self.assert_error(NotPossible, "count", count, list_at, n, depth, count, 0)
                self.assert_error(NotPossible, "count", count, place_at, n, depth, count, 0)
                self.assert_error(NotPossible, "count", count, number_at, n, count, beginning, 0)
                self.assert_error(NotPossible, "count", count, numbers_with, n, count, beginning)
                self.assert_error(NotPossible, "count", count, numbers_with, n, count, beginning[::-1])

    def test_numbers_that_there_are_not(self):
        for n, depth, count in ((2, 1, 2), (3, 3, 12), (4, 2, 24), (60, 2, 3540), (60, 60, least(60, 60))):
            for number in bad_numbers(count):
                self.assert_error(NoNumber, "value", number, list_at, n, depth, count, number)
                self.assert_error(NoNumber, "value", number, place_at, n, depth, count, number)

    def test_rests_that_there_are_not(self):
        for n, depth, count in ((2, 1, 2), (3, 3, 12), (4, 2, 24), (60, 2, 3540), (60, 60, least(60, 60))):
            many = count // math.comb(n, depth)
            for members in (tuple(range(depth)), tuple(range(n - depth, n))):
                for rest in bad_numbers(many):
                    self.assert_error(NoNumber, "value", rest, number_at, n, count, members, rest)
                number_at(n, count, members, many - 1)

    def test_both_wrong_at_once(self):
        for count in bad_counts(4, 2):
            for number in bad_numbers(12):
                self.assert_error(NotPossible, "count", count, list_at, 4, 2, count, number)
                self.assert_error(NotPossible, "count", count, place_at, 4, 2, count, number)
                self.assert_error(NotPossible, "count", count, number_at, 4, count, (0, 1), number)

    def test_depth_decides_whether_a_count_is_possible(self):
        for n, count, deepest in ((4, 4, 1), (4, 8, 1), (4, 12, 4), (5, 20, 2), (5, 60, 5), (60, 102660, 3)):
            for depth in range(1, n + 1):
                beginning = tuple(range(depth))
                if depth <= deepest:
                    list_at(n, depth, count, 0)
                    place_at(n, depth, count, count - 1)
                    number_at(n, count, beginning, 0)
                    numbers_with(n, count, beginning)
                else:
                    self.assert_error(NotPossible, "count", count, list_at, n, depth, count, 0)
                    self.assert_error(NotPossible, "count", count, place_at, n, depth, count, count)
                    self.assert_error(NotPossible, "count", count, number_at, n, count, beginning, 0)
                    self.assert_error(NotPossible, "count", count, numbers_with, n, count, beginning)

    def test_true_is_no_count_and_no_number(self):
        # With the depth 0, which is beyond the limit, 1 is a possible count.
        self.assertEqual(list_at(4, 0, 1, 0), ())
        self.assert_error(NotPossible, "count", True, list_at, 4, 0, True, 0)
        self.assert_error(NoNumber, "value", False, list_at, 4, 0, 1, False)
        self.assert_error(NoNumber, "value", False, number_at, 4, 12, (0,), False)
        self.assert_error(NoNumber, "value", True, number_at, 4, 12, (0,), True)


class Interface(Checks):
    def test_arguments_by_name(self):
        self.assert_same_by_name(list_at, 4, 2, 12, 11)
        self.assert_same_by_name(place_at, 4, 3, 24, 17)
        self.assert_same_by_name(number_at, 4, 12, (0, 1), 0)
        self.assert_same_by_name(numbers_with, 4, 12, (2,))
        self.assertEqual(list_at(number=11, count=12, depth=2, n=4), (3, 2))
        self.assertEqual(place_at(n=4, depth=2, count=12, number=0), ((0, 1), 1))
        self.assertEqual(number_at(n=4, count=12, members=(0, 1), rest=0), 3)
        self.assertEqual(numbers_with(n=4, count=12, beginning=(2,)), (6, 3))

    def test_names_in_their_order_and_file(self):
        self.assert_interface(lists, {
            "list_at": ["n", "depth", "count", "number"],
            "place_at": ["n", "depth", "count", "number"],
            "number_at": ["n", "count", "members", "rest"],
            "numbers_with": ["n", "count", "beginning"],
        })


if __name__ == "__main__":
    unittest.main()
