"""judging.py: points [5] and [26] to [28]."""

import copy
import random
import unittest

from any_values import any_values, nested
from checking import Checks
from evenfailover import judging
from evenfailover.errors import TooShort
from evenfailover.judging import is_even, shows_uneven, uneven
from evenfailover.levels import even_reach
from reference import (
    all_lists, failures_and_factors, is_witness, least, random_table, renamed, rotations, rule_table,
    small_tables, table_that_reaches, tables_beside,
)
from reference import is_even as even_by_definition

ROUND = ((0, 1, 2), (1, 2, 0), (2, 0, 1))
SIX = ((0, 1, 2), (0, 2, 1), (1, 0, 2), (1, 2, 0), (2, 0, 1), (2, 1, 0))


def tables_of_any_make():
    """Return (n, table) for up to 5 servers: even ones, nearly even ones and drawn ones."""
    source = random.Random(26)
    found = []
    for n, depth, count in small_tables():
        if n < 6:
            found.append((n, rule_table(n, depth, count)))
    for n in range(2, 6):
        for depth in range(2, n + 1):
            found.append((n, rotations(n, depth)))
            found.append((n, all_lists(n, depth)))
            for many in (1, 2, 7, 12):
                found.append((n, random_table(source, n, depth, many)))
            for reach in range(1, depth):
                found.append((n, table_that_reaches(n, depth, reach)))
    beside = []
    for n, table in found:
        beside.extend([(n, other) for other in tables_beside(source, n, table)])
    return found + beside


def great_tables_with_witnesses():
    """Return (n, table) for 6 to 12 servers, even up to some reach and then not, at most 5000 lists."""
    source = random.Random(27)
    found = []
    for n in range(6, 13):
        for reach in range(1, n + 1):
            if least(n, reach) <= 5000:
                table = renamed(table_that_reaches(n, n, reach), source.sample(range(n), n))
                found.append((n, table))
                at = source.randrange(len(table))
                tail = list(table[at][reach - 1:])
                source.shuffle(tail)
                found.append((n, table[:at] + (table[at][:reach - 1] + tuple(tail),) + table[at + 1:]))
        found.append((n, random_table(source, n, n, 40)))
        found.append((n, rotations(n, n)))
    return found


def some_failures_and_factors(n, reach):
    """Return (failures, factor) at the ends, and some whose reach is this one or the next."""
    found = {(1, 1), (1, n), (n - 1, 1), (n - 1, n)}
    for wanted in (reach, reach + 1):
        found.update([(1, wanted - 1), (wanted // 2, wanted - wanted // 2), (wanted - 1, 1)])
    return sorted([(failures, factor) for failures, factor in found if 1 <= failures < n and 1 <= factor <= n])


class IsEven(Checks):
    def test_examples(self):
        self.assertIs(is_even(3, ROUND, 1, 1), False)
        self.assertIs(is_even(3, rule_table(3, 2, 6), 1, 1), True)
        self.assert_error(TooShort, "order", (0,), is_even, 3, ((0,), (1,), (2,)), 1, 1)

    def test_against_the_definition(self):
        found = {True: 0, False: 0}
        for n, table in tables_of_any_make():
            for failures, factor, reach in failures_and_factors(n, len(table[0])):
                expected = even_by_definition(n, table, failures, factor)
                self.assertIs(is_even(n, table, failures, factor), expected, (n, table, failures, factor))
                found[expected] += 1
        self.assertGreater(found[True], 300)
        self.assertGreater(found[False], 300)

    def test_six_servers_against_the_definition(self):
        source = random.Random(6)
        for depth in (2, 4, 6):
            table = rule_table(6, depth, least(6, depth))
            for other in [table] + tables_beside(source, 6, table):
                for failures, factor, reach in failures_and_factors(6, depth):
                    expected = even_by_definition(6, other, failures, factor)
                    self.assertIs(is_even(6, other, failures, factor), expected, (depth, failures, factor))

    def check_great(self, n, table, pairs):
        other = (table[0][1], table[0][0]) + table[0][2:]
        for failures, factor in pairs:
            self.assertIs(is_even(n, table, failures, factor), True, (n, failures, factor))
            self.assertIs(is_even(n, table[::-1], failures, factor), True, (n, failures, factor))
            self.assertIs(is_even(n, table + table[-1:], failures, factor), False, (n, failures, factor))
            self.assertIs(is_even(n, table[1:], failures, factor), False, (n, failures, factor))
            self.assertIs(is_even(n, (other,) + table[1:], failures, factor), False, (n, failures, factor))

    def test_all_lists_of_depth_two(self):
        for n in range(2, 61):
            self.check_great(n, all_lists(n, 2), [(1, 1)])

    def test_all_lists_of_depth_three(self):
        for n in range(3, 17):
            self.check_great(n, all_lists(n, 3), [(1, 1), (1, 2), (2, 1)])

    def test_great_standard_tables(self):
        for n, depth in ((60, 2), (59, 2), (20, 3), (12, 5), (10, 10), (9, 9)):
            table = rule_table(n, depth, least(n, depth))
            pairs = [(failures, factor) for failures, factor, reach in failures_and_factors(n, depth)]
            self.check_great(n, table, pairs[:1] + pairs[-1:])


class Witnesses(Checks):
    def test_examples(self):
        self.assertIsNone(uneven(3, SIX, 2, 3))
        self.assertIsNotNone(uneven(2, ((0, 1),), 1, 1))
        table = ((0, 1), (1, 0), (0, 1))
        self.assertIs(shows_uneven(2, table, 1, 1, uneven(2, table, 1, 1)), True)

    def check(self, n, table, failures, factor):
        thing = uneven(n, table, failures, factor)
        even = is_even(n, table, failures, factor)
        self.assertIs(thing is None, even, (n, failures, factor))
        if not even:
            self.assertIs(shows_uneven(n, table, failures, factor, thing), True, (n, failures, factor, thing))
            self.assertTrue(is_witness(n, table, failures, factor, thing), (n, failures, factor, thing))
            turned = (thing[0], thing[2], thing[1])
            self.assertIs(shows_uneven(n, table, failures, factor, turned), False)

    def test_up_to_five_servers(self):
        for n, table in tables_of_any_make():
            for failures, factor, reach in failures_and_factors(n, len(table[0])):
                self.check(n, table, failures, factor)

    def test_six_to_twelve_servers(self):
        for n, table in great_tables_with_witnesses():
            for failures, factor in some_failures_and_factors(n, even_reach(n, table)):
                self.check(n, table, failures, factor)

    def test_most_lists(self):
        source = random.Random(28)
        table = random_table(source, 12, 12, 5000)
        self.check(12, table, 11, 12)
        self.check(12, table, 1, 1)
        table = rule_table(12, 5, 3960)
        self.check(12, table, 4, 1)
        self.check(12, table[:-1] + ((11, 10, 9, 8, 0),), 4, 1)

    def test_somewhat_beyond(self):
        for n in (13, 14):
            self.check(n, rotations(n, n), n - 1, 1)
            self.check(n, rotations(n, n), 3, n // 2)
            self.check(n, table_that_reaches(n, n, 2), n - 1, n)
        for table in (SIX, ROUND):
            for failures, factor in ((3, 1), (4, 3), (2, 4), (1, 5)):
                self.check(3, table, failures, factor)


class ShowsUneven(Checks):
    def test_examples(self):
        self.assertIs(shows_uneven(3, ROUND, 1, 1, ((0, 1), (1,), (0,))), True)
        self.assertIs(shows_uneven(2, ((0, 1),), 1, 1, ((0, 1), (0,), (1,))), False)

    def check(self, n, table, failures, factor, thing):
        before = copy.deepcopy(thing)
        expected = is_witness(n, table, failures, factor, thing)
        self.assertIs(shows_uneven(n, table, failures, factor, thing), expected, (n, failures, factor, thing))
        self.assertEqual(repr(thing), repr(before))
        return expected

    def test_all_triples_of_sets(self):
        small = [(), (0,), (1,), (2,), (0, 1), (0, 2), (1, 2), (0, 1, 2)]
        table = ((0, 1, 2), (1, 2, 0), (2, 0, 1), (0, 2, 1))
        found = 0
        for failures in (1, 2):
            for factor in (1, 2, 3):
                for live in small:
                    for fewer in small:
                        for more in small:
                            found += self.check(3, table, failures, factor, (live, fewer, more))
        self.assertEqual(found, 26)

    def test_any_value(self):
        for table in (ROUND, SIX):
            for thing in any_values():
                self.assertIs(shows_uneven(3, table, 1, 1, thing), False, thing)
                self.check(3, table, 1, 1, (thing, (1,), (0,)))
                self.check(3, table, 1, 1, ((0, 1), thing, (0,)))
                self.check(3, table, 1, 1, ((0, 1), (1,), thing))

    def test_one_entry_changed(self):
        right = ((0, 1), (1,), (0,))
        self.assertTrue(self.check(3, ROUND, 1, 1, right))
        for wrong in (
            [(0, 1), (1,), (0,)], ([0, 1], (1,), (0,)), ((0, 1), [1], (0,)), ((0, 1), (1,), [0]),
            ((False, True), (1,), (0,)), ((0, 1), (True,), (0,)), ((0, 1), (1,), (False,)), ((0, True), (1,), (0,)),
            ((1, 0), (1,), (0,)), ((0, 0, 1), (1,), (0,)), ((0, 1, 3), (1,), (0,)), ((-1, 0, 1), (1,), (0,)),
            ((0, 1), (1,), (0,), ()), ((0, 1), (1,)), ((0, 1),), (), right * 2, (right,),
            ((0, 1), (2,), (0,)), ((0, 1), (1,), (2,)), ((0, 2), (1,), (0,)), ((0,), (1,), (0,)), ((), (), ()),
            ((0, 1), (), ()), ((0, 1), (0, 1), (0, 1)), ((0, 1), (1,), (0, 1)), ((0, 1), (0, 1), (0,)),
            ((0, 1), (0,), (1,)), ((0, 1), (0,), (0,)), ((0, 1, 2), (1,), (0,)), ("01", (1,), (0,)),
            ({0: 1}, (1,), (0,)), ((0, 1), {1: 0}, (0,)), ((0, 1), (1,), None), (None, None, None),
            (((0, 1),), (1,), (0,)), ((0, 1), ((1,),), (0,)), nested(20), (nested(18), (1,), (0,)),
        ):
            self.assertFalse(self.check(3, ROUND, 1, 1, wrong), wrong)

    def test_drawn_witnesses(self):
        source = random.Random(280)
        found = 0
        for round_number in range(3000):
            n = source.randrange(2, 7)
            table = random_table(source, n, n, source.randrange(1, 9))
            failures, factor = source.randrange(1, n), source.randrange(1, n + 1)
            live = tuple(sorted(source.sample(range(n), source.randrange(1, n + 1))))
            size = source.randrange(1, len(live) + 1)
            fewer, more = [tuple(sorted(source.sample(live, size))) for part in range(2)]
            found += self.check(n, table, failures, factor, (live, fewer, more))
        self.assertGreater(found, 200)

    def test_great_witnesses(self):
        table = all_lists(60, 2)[1:]
        everyone = tuple(range(60))
        self.assertIs(shows_uneven(60, table, 1, 1, (everyone, (0,), (1,))), True)
        self.assertIs(shows_uneven(60, table, 1, 1, (everyone, (1,), (0,))), False)
        self.assertIs(shows_uneven(60, table, 1, 1, (everyone[1:], (1,), (59,))), True)
        self.assertIs(shows_uneven(60, table, 1, 1, (everyone[:-1], (0,), (58,))), True)
        self.assertIs(shows_uneven(60, table, 1, 1, (everyone[:-2], (0,), (57,))), False)


class Short(Checks):
    def test_depth_below_the_reach(self):
        source = random.Random(5)
        for n in range(2, 7):
            for depth in range(1, n + 1):
                table = random_table(source, n, depth, 3)
                for failures in range(1, n):
                    for factor in range(1, n + 1):
                        self.check(n, table, failures, factor)

    def check(self, n, table, failures, factor):
        things = [None, ((0, 1), (0,), (1,)), (tuple(range(n)), (0,), (1,)), [table]]
        if len(table[0]) < min(n, failures + factor):
            self.assert_error(TooShort, "order", table[0], is_even, n, table, failures, factor)
            self.assert_error(TooShort, "order", table[0], uneven, n, table, failures, factor)
            for thing in things:
                self.assert_error(TooShort, "order", table[0], shows_uneven, n, table, failures, factor, thing)
        else:
            is_even(n, table, failures, factor)
            uneven(n, table, failures, factor)
            for thing in things:
                shows_uneven(n, table, failures, factor, thing)

    def test_any_witness(self):
        for thing in any_values():
            self.assert_error(TooShort, "order", (2, 1), shows_uneven, 3, ((2, 1), (0, 1)), 2, 1, thing)
            shows_uneven(3, ((2, 1), (0, 1)), 1, 1, thing)

    def test_also_if_the_table_is_even(self):
        self.assert_error(TooShort, "order", (0,), is_even, 3, ((0,), (1,), (2,)), 1, 1)
        self.assert_error(TooShort, "order", (0,), uneven, 3, ((0,), (1,), (2,)), 1, 1)
        self.assert_error(TooShort, "order", (0, 1), uneven, 60, all_lists(60, 2), 2, 1)


class Interface(Checks):
    def test_arguments_by_name(self):
        self.assert_same_by_name(is_even, 3, ROUND, 1, 1)
        self.assert_same_by_name(uneven, 3, ROUND, 1, 1)
        self.assert_same_by_name(shows_uneven, 3, ROUND, 1, 1, ((0, 1), (1,), (0,)))
        self.assertIs(is_even(n=3, table=SIX, failures=2, factor=3), True)
        self.assertIsNone(uneven(n=3, table=SIX, failures=2, factor=3))
        self.assertIs(shows_uneven(n=3, table=ROUND, failures=1, factor=1, thing=((0, 1), (1,), (0,))), True)

    def test_names_in_their_order_and_file(self):
        self.assert_interface(judging, {
            "is_even": ["n", "table", "failures", "factor"],
            "uneven": ["n", "table", "failures", "factor"],
            "shows_uneven": ["n", "table", "failures", "factor", "thing"],
        })


if __name__ == "__main__":
    unittest.main()
