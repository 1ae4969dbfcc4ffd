import unittest

from brute import ODD_VALUES, SQUARE, closure, cyc, expect, members, one, ring, symmetric, times, turned
from small import (
    ALTERNATING_5, FIFTY_SIX, GREAT, LINEAR_168, LINEAR_SL3, QUATERNIONS, THIRTY, TOO_GREAT, UP_TO_24, UP_TO_60, all_subgroups, as_group, conj,
    normal_ones, order_of,
)
from stronggens.errors import BadGroup, BadPermutation, BadPrime, NotAbelian, NotMember, NotSubgroup, TooMany
from stronggens.primes import prime_part, sylows
from stronggens.transfers import is_central, normal_complement, obstacle, shows_obstacle, transfer
from test_primes import KEPT, NO_PRIMES, WRONG_GROUPS, is_power

THREE = (3, ((1, 2, 0), (1, 0, 2)))
TURNS = ((0, 1, 2), (1, 2, 0), (2, 0, 1))
PRIME_FUNCTIONS = (normal_complement, is_central, obstacle)
MORE = (LINEAR_SL3, symmetric(5))


def is_obstacle(group, prime, value):
    part, g = value
    rows = set(members(group))
    if list(part) != closure(group[0], part) or not set(part) <= rows or g not in rows:
        return False
    moved = [conj(p, g) for p in part]
    return is_power(len(part), prime) and order_of(g) % prime != 0 and set(moved) <= set(part) and moved != list(part)


class TestComplements(unittest.TestCase):
    def test_against_all_normal_subgroups(self):
        for group in UP_TO_60:
            size = len(members(group))
            for prime in KEPT:
                fitting = [part for part in normal_ones(group) if len(part) * prime_part(group, prime) == size and len(part) % prime]
                self.assertEqual(normal_complement(group, prime), fitting[0] if fitting else None)
        self.assertEqual(normal_complement(symmetric(5), 7), tuple(members(symmetric(5))))
        self.assertIsNone(normal_complement(LINEAR_168, 7))
        self.assertEqual(len(normal_complement(GREAT[2], 3) or ()), 0)
        self.assertEqual(normal_complement(SQUARE, 2), (one(4),))

    def test_is_central(self):
        for group in UP_TO_60 + MORE:
            rows = members(group)
            for prime in KEPT:
                part = sylows(group, prime)[-1]
                keeping = [g for g in rows if all(conj(p, g) in part for p in part)]
                central = all(times(g, p) == times(p, g) for g in keeping for p in part)
                self.assertIs(is_central(group, prime), central)
                if central:
                    self.assertIsNotNone(normal_complement(group, prime))


class TestObstacles(unittest.TestCase):
    def test_just_where_there_is_no_complement(self):
        for group in UP_TO_60 + MORE:
            for prime in KEPT:
                told = obstacle(group, prime)
                self.assertEqual(told is None, normal_complement(group, prime) is not None)
                if told is not None:
                    self.assertTrue(type(told) is tuple and len(told) == 2 and type(told[0]) is tuple)
                    self.assertTrue(is_obstacle(group, prime, told))
                    self.assertIs(shows_obstacle(group, prime, told), True)

    def test_all_pairs(self):
        for group in (THREE, SQUARE, symmetric(4), (4, (cyc(4, (0, 1, 2)), cyc(4, (1, 2, 3)))), (5, (ring(5), tuple(2 * x % 5 for x in range(5))))):
            for prime in (2, 3, 5):
                shown = 0
                for part in all_subgroups(group):
                    for g in members(group):
                        fits = is_obstacle(group, prime, (part, g))
                        shown += fits
                        self.assertIs(shows_obstacle(group, prime, (part, g)), fits)
                self.assertEqual(shown > 0, obstacle(group, prime) is not None)

    def test_bent_values(self):
        flip = (1, 0, 2)
        self.assertIs(shows_obstacle(THREE, 3, (TURNS, flip)), True)
        bent = [(TURNS, (1, 2, 0)), (TURNS, one(3)), (TURNS[::-1], flip), (list(TURNS), flip), [TURNS, flip], (TURNS[:2], flip), (TURNS[1:], flip),
                (TURNS + TURNS[2:], flip), (TURNS,), (TURNS, flip, flip), (TURNS, list(flip)), (TURNS, (True, False, 2)), (TURNS, (1, 0)), (TURNS, None),
                (TURNS, (1, 0, 2, 3)), ((), flip), ((one(3),), flip), (None, flip), ((one(3), None, None), flip), ((one(3), [1, 2, 0], (2, 0, 1)), flip),
                ((one(3), (1, 2, False), (2, 0, 1)), flip), (tuple(members(THREE)), flip), (TURNS, ([],)), (TURNS, {}), ({}, flip)]
        for value in bent + list(ODD_VALUES):
            self.assertIs(shows_obstacle(THREE, 3, value), False, value)
        self.assertIs(shows_obstacle(THREE, 2, (TURNS, flip)), False)
        self.assertIs(shows_obstacle((3, (ring(3),)), 3, (TURNS, flip)), False)
        self.assertIs(shows_obstacle(symmetric(6), 5, (tuple(closure(6, (cyc(6, (0, 1, 2, 3, 4)),))), cyc(6, (1, 4), (2, 3)))), True)

    def test_larger_groups(self):
        self.assertIs(shows_obstacle(LINEAR_168, 7, (sylows(LINEAR_168, 7)[0], one(7))), False)
        expect(self, TooMany, {"most": 120}, obstacle, LINEAR_168, 7)
        expect(self, TooMany, {"most": 120}, obstacle, symmetric(6), 1999)
        self.assertIsNone(obstacle(symmetric(5), 1999))


class TestTransfer(unittest.TestCase):
    def by_sets(self, group, part, p, pick):
        """The product of all h, straight from the definition, with some t of each set."""
        rows = members(group)
        sets = {frozenset(times(h, t) for h in part) for t in rows}
        leaders = {told: sorted(told)[pick % len(told)] for told in sets}
        made = one(group[0])
        for told, t in leaders.items():
            moved = times(t, p)
            s = [leader for other, leader in leaders.items() if moved in other][0]
            made = times(made, times(moved, turned(s)))
        return made

    def test_against_the_definition(self):
        for group in UP_TO_24 + (ALTERNATING_5, FIFTY_SIX, THIRTY):
            for part in all_subgroups(group):
                if all(times(p, q) == times(q, p) for p in part for q in part):
                    for k, p in enumerate(members(group)[::4]):
                        told = transfer(group, as_group(part), p)
                        self.assertEqual(told, self.by_sets(group, part, p, k))
                        self.assertIn(told, part)

    def test_it_is_a_homomorphism(self):
        group, part = QUATERNIONS, (8, (QUATERNIONS[1][0],))
        rows = members(group)
        for p in rows:
            for q in rows:
                self.assertEqual(transfer(group, part, times(p, q)), times(transfer(group, part, p), transfer(group, part, q)))
        self.assertEqual(transfer(symmetric(6), (6, ()), ring(6)), one(6))

    def test_errors(self):
        flip, turn = (3, ((1, 0, 2),)), (3, (ring(3),))
        for value, index in WRONG_GROUPS:
            expect(self, BadGroup, {"index": index}, transfer, value, None, None)
            expect(self, BadGroup, {"index": index}, transfer, THREE, value, None)
        for value in ODD_VALUES + ((0, 1, 1), (0, 1), [0, 1, 2]):
            expect(self, BadPermutation, {}, transfer, THREE, (2, ()), value)
        expect(self, NotSubgroup, {}, transfer, THREE, (2, ()), one(3))
        expect(self, NotSubgroup, {}, transfer, turn, flip, flip[1][0])
        expect(self, NotSubgroup, {}, transfer, turn, THREE, flip[1][0])
        expect(self, NotAbelian, {}, transfer, SQUARE, SQUARE, (1, 0, 2, 3))
        expect(self, NotMember, {}, transfer, turn, turn, flip[1][0])
        for great in TOO_GREAT:
            small = (great[0], (cyc(great[0], (0, 1)),))
            expect(self, TooMany, {"most": 2000}, transfer, great, small, one(great[0]))
            expect(self, NotAbelian, {}, transfer, great, great, one(great[0]))
        even = (7, (cyc(7, (0, 1, 2, 3, 4, 5, 6)), cyc(7, (0, 1, 2))))
        expect(self, NotMember, {}, transfer, even, (7, ()), cyc(7, (0, 1)))


class TestErrors(unittest.TestCase):
    def test_groups_primes_and_too_many(self):
        for function in PRIME_FUNCTIONS:
            most = 120 if function is obstacle else 2000
            for value, index in WRONG_GROUPS:
                expect(self, BadGroup, {"index": index}, function, value, None)
            for value in NO_PRIMES:
                expect(self, BadPrime, {}, function, THREE, value)
                expect(self, BadPrime, {}, function, TOO_GREAT[0], value)
            for group in TOO_GREAT:
                expect(self, TooMany, {"most": most}, function, group, 2)
        for value, index in WRONG_GROUPS:
            expect(self, BadGroup, {"index": index}, shows_obstacle, value, None, None)
        for value in NO_PRIMES:
            expect(self, BadPrime, {}, shows_obstacle, THREE, value, None)
        expect(self, TooMany, {"most": 2000}, shows_obstacle, TOO_GREAT[0], 2, None)


if __name__ == "__main__":
    unittest.main()
