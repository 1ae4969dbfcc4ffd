import itertools
import unittest

from brute import ODD_VALUES, SQUARE, cyc, expect, members, one, ring, run_steps, symmetric, times, turned
from small import (
    ALTERNATING_5, GREAT, LINEAR_168, THIRTY, TOO_GREAT, UP_TO_24, UP_TO_60, all_subgroups, as_group, conj, normal_ones, order_of,
)
from stronggens.errors import (
    BadExponent, BadGroup, BadPermutation, BadPrime, NotMember, NotNormal, NotPrimePower, NotSubgroup, NotSylow, TooMany,
)
from stronggens.primes import (
    conjugate_into, element_of_prime, frattini_split, prime_part, rings, roots_of_one, sylow, sylow_count, sylows,
)

PRIME_FUNCTIONS = (prime_part, sylow, sylows, sylow_count, rings, element_of_prime)
NO_PRIMES = ODD_VALUES + (0, 1, 4, 9, 15, 25, 49, 1961, 1993 * 1997, 2001, 2003, -2, -3, True, "2", (2,), [2], {2: 2}, 2.0)
NO_PRIMES = tuple(value for value in NO_PRIMES if value != 13)
WRONG_GROUPS = ((None, None), ((13, ()), None), ((3, [ring(3)]), None), ((3, (ring(3), (0, 1))), 1))
THREE = (3, ((1, 2, 0), (1, 0, 2)))
KEPT = (2, 3, 5, 7, 11, 1999)


def part_of(size, prime):
    part = 1
    while size % (part * prime) == 0:
        part *= prime
    return part


def is_power(size, prime):
    return part_of(size, prime) == size


class TestSylow(unittest.TestCase):
    def test_against_all_subgroups(self):
        for group in UP_TO_60:
            size = len(members(group))
            for prime in KEPT:
                part = part_of(size, prime)
                self.assertEqual(prime_part(group, prime), part)
                expected = sorted(rows for rows in all_subgroups(group) if len(rows) == part)
                self.assertEqual(sylows(group, prime), expected)
                self.assertEqual(sylow_count(group, prime), len(expected))
                told = sylow(group, prime)
                self.assertTrue(type(told) is tuple and told[0] == group[0] and len(told[1]) <= 12)
                self.assertIn(tuple(members(told)), expected)

    def test_great_groups(self):
        for group, numbers in ((symmetric(5), {2: 15, 3: 10, 5: 6, 7: 1}), (LINEAR_168, {2: 21, 3: 28, 7: 8, 1999: 1}),
                               (symmetric(6), {2: 45, 3: 10, 5: 36}), (GREAT[2], {2: 15, 3: 10, 5: 6})):
            for prime, number in numbers.items():
                self.assertEqual(sylow_count(group, prime), number)
                rows = sylows(group, prime)
                self.assertEqual((len(rows), rows), (number, sorted(rows)))
                self.assertTrue(all(list(part) == members(as_group(part)) for part in rows[:5]))
                self.assertIn(tuple(members(sylow(group, prime))), rows)
        wreath = (8, (cyc(8, (0, 1)), cyc(8, (0, 2), (1, 3)), cyc(8, (0, 4), (1, 5), (2, 6), (3, 7))))
        self.assertEqual((prime_part(wreath, 2), sylow_count(wreath, 2), len(members(sylow(wreath, 2)))), (128, 1, 128))

    def test_all_primes(self):
        primes = [n for n in range(2, 2000) if all(n % k for k in range(2, n))]
        self.assertEqual([prime_part(SQUARE, prime) for prime in primes], [8] + [1] * (len(primes) - 1))
        for n in set(range(-2, 2010)) - set(primes):
            with self.assertRaises(BadPrime):
                prime_part((1, ()), n)


class TestConjugateInto(unittest.TestCase):
    def test_what_it_must_do(self):
        for group in UP_TO_24 + (ALTERNATING_5, THIRTY):
            rows = set(members(group))
            for prime in (2, 3, 5, 7):
                wholes = sylows(group, prime)
                for part in all_subgroups(group):
                    if is_power(len(part), prime):
                        for whole in wholes[:3]:
                            g = conjugate_into(group, prime, as_group(part), as_group(whole))
                            self.assertIn(g, rows)
                            self.assertTrue(all(conj(p, g) in whole for p in part))
        g = conjugate_into(symmetric(6), 3, (6, (cyc(6, (0, 1, 2), (3, 4, 5)),)), (6, (cyc(6, (0, 2, 4)), cyc(6, (1, 3, 5)))))
        self.assertIn(conj(cyc(6, (0, 1, 2), (3, 4, 5)), g), members((6, (cyc(6, (0, 2, 4)), cyc(6, (1, 3, 5))))))

    def test_errors(self):
        flip, turn = (3, ((1, 0, 2),)), (3, (ring(3),))
        for value, index in WRONG_GROUPS:
            expect(self, BadGroup, {"index": index}, conjugate_into, value, None, None, None)
            expect(self, BadGroup, {"index": index}, conjugate_into, THREE, 2, value, None)
            expect(self, BadGroup, {"index": index}, conjugate_into, THREE, 2, (2, ((1, 0),)), value)
        for value in NO_PRIMES:
            expect(self, BadPrime, {}, conjugate_into, THREE, value, None, None)
        expect(self, NotSubgroup, {}, conjugate_into, THREE, 2, (2, ()), (2, ()))
        expect(self, NotSubgroup, {}, conjugate_into, turn, 2, flip, THREE)
        expect(self, NotSubgroup, {}, conjugate_into, turn, 2, flip, (3, ()))
        expect(self, NotSubgroup, {}, conjugate_into, turn, 3, flip, turn)
        expect(self, NotSubgroup, {}, conjugate_into, THREE, 2, (2, ()), flip)
        expect(self, NotPrimePower, {}, conjugate_into, THREE, 2, turn, (4, ()))
        expect(self, NotPrimePower, {}, conjugate_into, THREE, 5, flip, (4, ()))
        expect(self, NotSubgroup, {}, conjugate_into, THREE, 2, flip, (4, ()))
        expect(self, NotSubgroup, {}, conjugate_into, turn, 3, turn, THREE)
        for whole in (turn, (3, ()), THREE):
            expect(self, NotSylow, {}, conjugate_into, THREE, 2, flip, whole)
        expect(self, NotSylow, {}, conjugate_into, THREE, 5, (3, ()), flip)
        self.assertIn(conjugate_into(THREE, 5, (3, ()), (3, ())), members(THREE))
        for great in TOO_GREAT:
            small = (great[0], (cyc(great[0], (0, 1)),))
            expect(self, NotSylow, {}, conjugate_into, great, 2, small, small)
            expect(self, NotPrimePower, {}, conjugate_into, great, 3, small, small)
        seven = (7, (ring(7),))
        expect(self, TooMany, {"most": 2000}, conjugate_into, TOO_GREAT[0], 7, seven, seven)


class TestFrattiniSplit(unittest.TestCase):
    def test_what_it_must_do(self):
        several = 0
        for group in UP_TO_24 + (ALTERNATING_5, THIRTY):
            for rows in normal_ones(group):
                normal = as_group(rows)
                for prime in (2, 3, 5):
                    parts = sylows(normal, prime)
                    several += len(parts) > 1
                    for part in parts[:2]:
                        for p in members(group)[::3]:
                            n, h = frattini_split(group, normal, prime, as_group(part), p)
                            self.assertIn(n, rows)
                            self.assertEqual(times(n, h), p)
                            self.assertTrue(all(conj(q, h) in part for q in part))
        self.assertGreater(several, 8)
        group, normal = symmetric(5), (5, ALTERNATING_5[1])
        for p in members(group)[::7]:
            n, h = frattini_split(group, normal, 5, (5, (ring(5),)), p)
            self.assertIn(conj(ring(5), h), members((5, (ring(5),))))
            self.assertEqual(times(n, h), p)

    def test_errors(self):
        four = symmetric(4)
        normal, pairs = (4, (cyc(4, (0, 1, 2)), cyc(4, (1, 2, 3)))), (4, ((1, 0, 3, 2), (2, 3, 0, 1)))
        for value, index in WRONG_GROUPS:
            expect(self, BadGroup, {"index": index}, frattini_split, value, None, None, None, None)
            expect(self, BadGroup, {"index": index}, frattini_split, four, value, None, None, None)
            expect(self, BadGroup, {"index": index}, frattini_split, four, (3, ()), 2, value, None)
        for value in NO_PRIMES:
            expect(self, BadPrime, {}, frattini_split, four, (3, ()), value, None, None)
        for value in ODD_VALUES + ((0, 1, 2), (0, 1, 2, 2)):
            expect(self, BadPermutation, {}, frattini_split, four, (3, ()), 2, (3, ()), value)
        expect(self, NotSubgroup, {}, frattini_split, four, (3, ()), 2, (3, ()), one(4))
        expect(self, NotSubgroup, {}, frattini_split, normal, four, 2, (3, ()), one(4))
        expect(self, NotNormal, {}, frattini_split, four, (4, (cyc(4, (0, 1)),)), 2, (3, ()), one(4))
        expect(self, NotSubgroup, {}, frattini_split, four, normal, 2, (3, ()), one(4))
        expect(self, NotSubgroup, {}, frattini_split, four, normal, 2, (4, (cyc(4, (0, 1)),)), one(4))
        expect(self, NotSylow, {}, frattini_split, four, normal, 3, pairs, one(4))
        expect(self, NotSylow, {}, frattini_split, four, normal, 2, (4, (cyc(4, (0, 1), (2, 3)),)), one(4))
        expect(self, NotSylow, {}, frattini_split, normal, normal, 5, pairs, (1, 0, 2, 3))
        expect(self, NotMember, {}, frattini_split, normal, normal, 2, pairs, (1, 0, 2, 3))
        great = TOO_GREAT[0]
        even = (7, (cyc(7, (0, 1, 2, 3, 4, 5, 6)), cyc(7, (0, 1, 2))))
        expect(self, TooMany, {"most": 2000}, frattini_split, great, even, 7, (7, (ring(7),)), one(7))
        expect(self, NotMember, {}, frattini_split, even, even, 7, (7, (ring(7),)), cyc(7, (0, 1)))
        expect(self, NotSylow, {}, frattini_split, great, even, 3, (7, (ring(7),)), one(7))
        expect(self, TooMany, {"most": 2000}, frattini_split, great, (7, ()), 7, (7, ()), one(7))


class TestCounts(unittest.TestCase):
    def test_roots_of_one(self):
        for group in UP_TO_60:
            orders = [order_of(p) for p in members(group)]
            for exponent in (1, 2, 3, 4, 5, 6, 12, 60, 10 ** 60, 2 ** 200, 3 ** 100 * 5, 10 ** 60 + 1):
                self.assertEqual(roots_of_one(group, exponent), len([n for n in orders if exponent % n == 0]))
        self.assertEqual(roots_of_one(LINEAR_168, 7), 49)
        for value in (None, True, 0, -1, -2, "2", (2,), [2], {}, -10 ** 40):
            expect(self, BadExponent, {}, roots_of_one, THREE, value)
            expect(self, BadExponent, {}, roots_of_one, TOO_GREAT[0], value)
            expect(self, BadGroup, {"index": None}, roots_of_one, (3,), value)

    def test_rings_by_all_tuples(self):
        for group in UP_TO_24:
            rows = members(group)
            for prime in (2, 3, 5, 7):
                if len(rows) ** (prime - 1) <= 2000:
                    tuples = self.tuples(rows, prime)
                    equal = [told for told in tuples if len(set(told)) == 1]
                    others = {min(told[k:] + told[:k] for k in range(prime)) for told in tuples if len(set(told)) > 1}
                    self.assertEqual(rings(group, prime), (len(equal), len(others)))
        self.assertEqual(rings((1, ()), 1999), (1, 0))
        self.assertEqual(rings(SQUARE, 1999), (1, (8 ** 1998 - 1) // 1999))
        self.assertEqual(rings(symmetric(6), 2), (76, (720 - 76) // 2))

    def tuples(self, rows, prime):
        found = []
        for told in itertools.product(rows, repeat=prime - 1):
            made = told[0]
            for p in told[1:]:
                made = times(made, p)
            found.append(told + (turned(made),))
        return found

    def test_element_of_prime(self):
        for group in UP_TO_60 + GREAT:
            orders = [order_of(p) for p in members(group)]
            for prime in KEPT:
                program = element_of_prime(group, prime)
                if prime in orders:
                    self.assertEqual(order_of(run_steps(group[0], group[1], program)), prime)
                else:
                    self.assertIsNone(program)


class TestErrors(unittest.TestCase):
    def test_groups_primes_and_too_many(self):
        for function in PRIME_FUNCTIONS:
            for value, index in WRONG_GROUPS:
                expect(self, BadGroup, {"index": index}, function, value, None)
            for value in NO_PRIMES:
                expect(self, BadPrime, {}, function, THREE, value)
                expect(self, BadPrime, {}, function, TOO_GREAT[0], value)
            for group in TOO_GREAT:
                expect(self, TooMany, {"most": 2000}, function, group, 2)
                expect(self, TooMany, {"most": 2000}, function, group, 1999)
        expect(self, TooMany, {"most": 2000}, roots_of_one, TOO_GREAT[0], 1)


if __name__ == "__main__":
    unittest.main()
