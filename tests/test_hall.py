import itertools
import math
import unittest

from brute import ODD_VALUES, SQUARE, closure, cyc, expect, members, one, ring, symmetric
from small import (
    ALTERNATING_5, FIFTY_SIX, GREAT, LINEAR_168, QUATERNIONS, THIRTY, TOO_GREAT, UP_TO_24, UP_TO_60, all_subgroups, comm, is_normal_in,
    normal_ones,
)
from stronggens.errors import BadGroup, BadPrime, BadPrimes, TooMany
from stronggens.hall import (
    core_p, derived_series, hall, hall_gap, is_nilpotent, is_solvable, lower_central, upper_central,
)
from test_primes import KEPT, NO_PRIMES, WRONG_GROUPS, is_power, part_of

SERIES = (derived_series, lower_central, upper_central)
PLAIN = SERIES + (is_solvable, is_nilpotent)


def made_by_commutators(group, some, others):
    found = {comm(p, q) for p in some for q in others}
    return closure(group[0], sorted(found))


def descending(group, step):
    found = [tuple(members(group))]
    below = tuple(step(found[-1]))
    while len(below) < len(found[-1]):
        found.append(below)
        below = tuple(step(found[-1]))
    return found


class TestHall(unittest.TestCase):
    def goal(self, group, primes):
        return math.prod(part_of(len(members(group)), prime) for prime in primes)

    def check(self, group, primes, exists):
        told = hall(group, primes)
        if not exists:
            self.assertIsNone(told)
            return
        self.assertTrue(told[0] == group[0] and type(told[1]) is tuple and len(told[1]) <= 12)
        rows = members(told)
        self.assertEqual(len(rows), self.goal(group, primes))
        self.assertTrue(set(rows) <= set(members(group)))

    def test_against_all_subgroups(self):
        for group in UP_TO_60 + (symmetric(5), ):
            sizes = {len(part) for part in all_subgroups(group)}
            gaps = []
            for size in range(4):
                for primes in itertools.combinations((2, 3, 5, 7), size):
                    exists = self.goal(group, primes) in sizes
                    self.check(group, primes, exists)
                    if not exists and all(len(members(group)) % prime == 0 for prime in primes):
                        gaps.append(primes)
            self.assertEqual(hall_gap(group), gaps[0] if gaps else None)

    def test_groups_of_up_to_168(self):
        self.assertEqual(hall_gap(LINEAR_168), (2, 7))
        self.check(LINEAR_168, (2, 3), True)
        self.check(LINEAR_168, (2, 7), False)
        self.check(LINEAR_168, (3, 7), True)
        self.check(LINEAR_168, (2, 3, 7), True)
        self.check(LINEAR_168, (5, 11, 1999), True)
        self.assertEqual(hall_gap(symmetric(5)), (2, 5))
        self.check(symmetric(5), (2, 3), True)
        self.check(symmetric(5), (2, 3, 5), True)
        self.assertEqual([hall_gap(group) for group in (FIFTY_SIX, THIRTY, symmetric(4), (1, ()))], [None] * 4)
        wide = (12, (cyc(12, (0, 1, 2)), cyc(12, (0, 1), (3, 4)), cyc(12, (5, 6, 7, 8, 9)), cyc(12, (6, 9), (7, 8)), cyc(12, (10, 11))))
        self.assertEqual(len(members(wide)), 120)
        for size in range(4):
            for primes in itertools.combinations((2, 3, 5), size):
                self.check(wide, primes, True)
        self.assertIsNone(hall_gap(wide))

    def test_the_empty_tuple(self):
        for group in UP_TO_24:
            self.check(group, (), True)

    def test_errors(self):
        for value, index in WRONG_GROUPS:
            expect(self, BadGroup, {"index": index}, hall, value, None)
            expect(self, BadGroup, {"index": index}, hall_gap, value)
        values = ODD_VALUES + ((2, 2), (3, 2), (2, 3, 3), (1,), (4,), (2, 4), (2001,), (2, True), (2, None), [2, 3], (2, "3"), ((2,), 3), {2: 3}, 2, "23",
                               (-2, 2), (2, 3, 5, 7, 11, 9))
        for value in values:
            if value != ():
                for group in (SQUARE, TOO_GREAT[0]):
                    expect(self, BadPrimes, {}, hall, group, value)
        for group in TOO_GREAT + GREAT[2:] + (symmetric(6),):
            expect(self, TooMany, {"most": 200}, hall, group, ())
            expect(self, TooMany, {"most": 200}, hall, group, (2, 3))
            expect(self, TooMany, {"most": 200}, hall_gap, group)


class TestSeries(unittest.TestCase):
    def test_derived(self):
        for group in UP_TO_60 + (LINEAR_168, symmetric(5)):
            told = derived_series(group)
            self.assertEqual(told, descending(group, lambda rows: made_by_commutators(group, rows, rows)))
            self.assertIs(is_solvable(group), len(told[-1]) == 1)
        self.assertEqual([len(rows) for rows in derived_series(symmetric(4))], [24, 12, 4, 1])
        self.assertEqual([is_solvable(group) for group in (symmetric(4), symmetric(5), LINEAR_168, (1, ()))], [True, False, False, True])

    def test_lower_central(self):
        for group in UP_TO_60 + (LINEAR_168, symmetric(5)):
            rows = members(group)
            told = lower_central(group)
            self.assertEqual(told, descending(group, lambda part: made_by_commutators(group, part, rows)))
            self.assertIs(is_nilpotent(group), len(told[-1]) == 1)
        self.assertEqual([len(rows) for rows in lower_central(QUATERNIONS)], [8, 2, 1])
        self.assertEqual([len(rows) for rows in lower_central(symmetric(4))], [24, 12])
        self.assertEqual(lower_central((2, ())), [(one(2),)])

    def test_upper_central(self):
        for group in UP_TO_60 + (LINEAR_168, symmetric(5)):
            rows = members(group)
            expected = [(one(group[0]),)]
            wider = tuple(p for p in rows if all(comm(p, q) in expected[-1] for q in rows))
            while len(wider) > len(expected[-1]):
                expected.append(wider)
                wider = tuple(p for p in rows if all(comm(p, q) in expected[-1] for q in rows))
            self.assertEqual(upper_central(group), expected)
            self.assertEqual(len(expected[-1]) == len(rows), is_nilpotent(group))
        self.assertEqual([len(rows) for rows in upper_central(QUATERNIONS)], [1, 2, 8])

    def test_greater_groups(self):
        self.assertEqual([len(rows) for rows in derived_series(symmetric(6))], [720, 360])
        wreath = (8, (cyc(8, (0, 1)), cyc(8, (0, 2), (1, 3)), cyc(8, (0, 4), (1, 5), (2, 6), (3, 7))))
        self.assertEqual([len(rows) for rows in lower_central(wreath)], [128, 16, 4, 2, 1])
        self.assertEqual([len(rows) for rows in upper_central(wreath)], [1, 2, 4, 16, 128])
        self.assertIs(is_nilpotent(wreath), True)

    def test_lists_are_new(self):
        for function in SERIES:
            told = function(SQUARE)
            told.append(None)
            self.assertNotIn(None, function(SQUARE))


class TestCore(unittest.TestCase):
    def test_against_all_normal_subgroups(self):
        for group in UP_TO_60:
            for prime in KEPT:
                expected = max((part for part in normal_ones(group) if is_power(len(part), prime)), key=len)
                self.assertEqual(core_p(group, prime), expected)
        self.assertEqual(len(core_p(symmetric(4), 2)), 4)
        for prime in (2, 3, 7, 1999):
            self.assertEqual(core_p(LINEAR_168, prime), (one(7),))
        self.assertTrue(is_normal_in(core_p(GREAT[2], 3), members(GREAT[2])))
        self.assertEqual(len(core_p(GREAT[2], 3)), 3)
        self.assertEqual(core_p(ALTERNATING_5, 5), (one(5),))


class TestErrors(unittest.TestCase):
    def test_groups_primes_and_too_many(self):
        for function in PLAIN:
            for value, index in WRONG_GROUPS:
                expect(self, BadGroup, {"index": index}, function, value)
            for group in TOO_GREAT:
                expect(self, TooMany, {"most": 2000}, function, group)
        for value, index in WRONG_GROUPS:
            expect(self, BadGroup, {"index": index}, core_p, value, None)
        for value in NO_PRIMES:
            expect(self, BadPrime, {}, core_p, (3, (ring(3),)), value)
            expect(self, BadPrime, {}, core_p, TOO_GREAT[0], value)
        expect(self, TooMany, {"most": 2000}, core_p, TOO_GREAT[0], 1999)


if __name__ == "__main__":
    unittest.main()
