import math
import unittest

from brute import ODD_VALUES, all_perms, cyc, expect, one, ring, shuffled, times, turned
from stronggens.errors import BadDegree, BadExponent, BadPermutation
from stronggens.perms import (
    commutator, conjugate, cycle_lengths, cycles, element_order, identity, inverse, power, product, sign, support,
)

SINGLE = (inverse, cycles, cycle_lengths, element_order, sign, support)
DOUBLE = (product, conjugate, commutator)
NO_PERMUTATIONS = [value for value in ODD_VALUES if value != (0,)] + [
    (), 0, 1, (1,), (0, 2), (-1, 0), (0, 1, True), (False, 1), list(range(3)), ((0, 1),), (1.0, 0)]


class TestProducts(unittest.TestCase):
    def test_images(self):
        for p in all_perms(4):
            for q in all_perms(4):
                self.assertEqual(product(p, q), tuple(q[p[x]] for x in range(4)))
                self.assertEqual(conjugate(p, q), times(times(turned(q), p), q))
                self.assertEqual(commutator(p, q), times(times(turned(p), turned(q)), times(p, q)))

    def test_inverse(self):
        for degree in range(1, 6):
            for p in all_perms(degree):
                self.assertEqual(product(p, inverse(p)), identity(degree))
                self.assertEqual(product(inverse(p), p), identity(degree))

    def test_great_degree(self):
        p, q = shuffled(12, 5), shuffled(12, 6)
        self.assertEqual(product(p, q), times(p, q))
        self.assertEqual(conjugate(p, q), times(turned(q), times(p, q)))
        self.assertEqual(inverse(p), turned(p))

    def test_identity(self):
        self.assertEqual([identity(degree) for degree in range(1, 13)], [tuple(range(degree)) for degree in range(1, 13)])
        for value in (0, 13, -1, None, True, False, "3", (3,), [3], {}, 10 ** 30):
            expect(self, BadDegree, {}, identity, value)

    def test_degree_one(self):
        self.assertEqual([product((0,), (0,)), inverse((0,)), power((0,), -7), conjugate((0,), (0,))], [(0,)] * 4)


class TestPower(unittest.TestCase):
    def test_against_repeated_products(self):
        for p in (ring(1), ring(5), cyc(6, (0, 1), (2, 3, 4)), cyc(12, (0, 1, 2, 3, 4), (5, 6, 7, 8), (9, 10, 11))):
            up = down = one(len(p))
            for exponent in range(70):
                self.assertEqual([power(p, exponent), power(p, -exponent)], [up, down])
                up, down = times(up, p), times(down, turned(p))

    def test_thousands_of_digits(self):
        p = cyc(12, (0, 1, 2, 3, 4), (5, 6, 7, 8), (9, 10, 11))
        for exponent in (10 ** 6000, 10 ** 6000 + 7, 7 ** 9000):
            self.assertEqual(power(p, exponent), power(p, exponent % 60))
            self.assertEqual(power(p, -exponent), power(p, -(exponent % 60)))

    def test_wrong_exponents(self):
        for value in (None, True, False, "2", (2,), [2], {}, ()):
            expect(self, BadExponent, {}, power, (1, 0), value)
        expect(self, BadPermutation, {}, power, (1, 1), None)


class TestCycles(unittest.TestCase):
    def test_cycles_of_all_permutations(self):
        for degree in range(1, 7):
            for p in all_perms(degree):
                rows = cycles(p)
                self.assertEqual(cyc(degree, *rows), p)
                self.assertTrue(all(row[0] == min(row) and len(row) > 1 for row in rows))
                self.assertEqual(sorted(rows), list(rows))
                lengths = [len(row) for row in rows]
                fixed = degree - sum(lengths)
                self.assertEqual(cycle_lengths(p), tuple([1] * fixed + sorted(lengths)))
                self.assertEqual(element_order(p), math.lcm(*lengths, 1))
                self.assertEqual(sign(p), (-1) ** (degree - fixed - len(lengths)))
                self.assertEqual(support(p), tuple(x for x in range(degree) if p[x] != x))
                self.assertEqual(power(p, element_order(p)), one(degree))

    def test_sign_of_products(self):
        for p in all_perms(4):
            for q in all_perms(4):
                self.assertEqual(sign(product(p, q)), sign(p) * sign(q))

    def test_edges(self):
        self.assertEqual([cycles((0,)), cycle_lengths((0,)), element_order((0,)), sign((0,)), support((0,))],
                         [(), (1,), 1, 1, ()])
        self.assertEqual([cycles(one(12)), cycle_lengths(one(12)), element_order(one(12)), sign(one(12))],
                         [(), (1,) * 12, 1, 1])
        self.assertEqual(element_order(cyc(12, (0, 1, 2, 3, 4), (5, 6, 7, 8), (9, 10, 11))), 60)
        self.assertEqual(cycles(cyc(5, (4, 1, 3))), ((1, 3, 4),))


class TestErrors(unittest.TestCase):
    def test_no_permutations(self):
        for value in NO_PERMUTATIONS:
            for function in SINGLE:
                expect(self, BadPermutation, {}, function, value)
            for function in DOUBLE:
                expect(self, BadPermutation, {}, function, value, (0, 1))
                expect(self, BadPermutation, {}, function, (0, 1), value)
            expect(self, BadPermutation, {}, power, value, 2)

    def test_other_degree(self):
        for function in DOUBLE:
            expect(self, BadPermutation, {}, function, (0, 1), (0, 1, 2))
            expect(self, BadPermutation, {}, function, (0, 1), (0,))


if __name__ == "__main__":
    unittest.main()
