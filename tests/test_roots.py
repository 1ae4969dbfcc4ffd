import math
import unittest

from brute import ODD_VALUES, all_perms, cyc, expect, one, ring, shuffled, times, turned
from stronggens.errors import BadExponent, BadPermutation
from stronggens.perms import cycle_lengths, power
from stronggens.roots import centralizer_size, conjugator, root, root_obstacle


def conjugate(p, g):
    return times(turned(g), times(p, g))


def divisor(length, exponent):
    """By the words: for each prime of the length, its greatest power in the exponent."""
    found = 1
    for prime in (2, 3, 5, 7, 11):
        while length % prime == 0 and exponent % prime == 0:
            found, exponent = found * prime, exponent // prime
    return found


class TestConjugator(unittest.TestCase):
    def test_small_degrees(self):
        for degree in range(1, 5):
            for p in all_perms(degree):
                for q in all_perms(degree):
                    self.check(p, q)

    def check(self, p, q):
        g = conjugator(p, q)
        if cycle_lengths(p) == cycle_lengths(q):
            self.assertEqual(sorted(g), list(range(len(p))))
            self.assertIs(type(g), tuple)
            self.assertEqual(conjugate(p, g), q)
        else:
            self.assertIsNone(g)

    def test_great_degree(self):
        for seed in range(60):
            p = shuffled(12, seed)
            self.check(p, shuffled(12, seed + 1))
            self.check(p, conjugate(p, shuffled(12, seed + 2)))
            self.check(p, turned(p))

    def test_centralizer(self):
        for degree in range(1, 6):
            for p in all_perms(degree):
                self.assertEqual(centralizer_size(p), sum(times(p, q) == times(q, p) for q in all_perms(degree)))
        self.assertEqual([centralizer_size(one(12)), centralizer_size(ring(12)), centralizer_size((0,))],
                         [math.factorial(12), 12, 1])
        self.assertEqual(centralizer_size(cyc(12, (0, 1), (2, 3), (4, 5, 6), (7, 8, 9))), 2 ** 2 * 2 * 3 ** 2 * 2 * 2)

    def test_wrong_values(self):
        for value in ODD_VALUES + ((), (1,)):
            expect(self, BadPermutation, {}, conjugator, value, (0,))
            expect(self, BadPermutation, {}, conjugator, (0, 1), value)
            expect(self, BadPermutation, {}, centralizer_size, value)
        expect(self, BadPermutation, {}, conjugator, (0, 1), (0, 1, 2))


class TestRoot(unittest.TestCase):
    def check(self, p, exponent, rooted):
        found = root(p, exponent)
        obstacle = root_obstacle(p, exponent)
        if rooted:
            self.assertEqual(sorted(found), list(range(len(p))))
            self.assertEqual(power(found, exponent), p)
            self.assertIsNone(obstacle)
        else:
            self.assertIsNone(found)
            lengths = cycle_lengths(p)
            bad = [(k, lengths.count(k), divisor(k, exponent)) for k in sorted(set(lengths))
                   if lengths.count(k) % divisor(k, exponent)]
            self.assertEqual(obstacle, bad[0])

    def test_all_small_ones(self):
        for degree in range(1, 6):
            for exponent in range(1, 13):
                powers = {power(p, exponent) for p in all_perms(degree)}
                for p in all_perms(degree):
                    self.check(p, exponent, p in powers)

    def test_degree_six_and_seven(self):
        for exponent in (2, 3, 4, 6):
            for degree in (6, 7):
                powers = {power(p, exponent) for p in all_perms(degree)}
                for p in all_perms(degree)[::7]:
                    self.check(p, exponent, p in powers)

    def test_great_exponents(self):
        eights = cyc(12, (0, 1), (2, 3), (4, 5), (6, 7), (8, 9), (10, 11))
        fours = cyc(12, (0, 1), (2, 3), (4, 5), (6, 7))
        self.check(fours, 4 * 3 ** 4000, True)
        self.check(fours, 8 * 3 ** 4000, False)
        self.assertEqual(root_obstacle(fours, 8 * 3 ** 4000), (2, 4, 8))
        self.assertEqual(root_obstacle(eights, 2 ** 5000), (2, 6, 2 ** 5000))
        self.assertEqual(root_obstacle(cyc(6, range(6)), 2 ** 700 * 3 ** 900 * 5), (6, 1, 2 ** 700 * 3 ** 900))
        self.check(one(12), 12 ** 3000, True)
        self.check(ring(11), 7 ** 5000, True)
        self.check(cyc(12, range(5), range(5, 10)), 2 ** 2000, True)

    def test_long_cycles(self):
        for length in range(6, 13):
            for exponent in range(1, 37):
                self.check(ring(length), exponent, math.gcd(length, exponent) == 1)
            self.assertIsNone(root_obstacle(ring(length), 13))
        self.assertEqual([root_obstacle(ring(7), 49), root_obstacle(ring(11), 22), root_obstacle(ring(10), 25)],
                         [(7, 1, 49), (11, 1, 11), (10, 1, 25)])
        self.check(cyc(12, range(6), range(6, 12)), 2, True)
        self.check(cyc(12, range(6), range(6, 12)), 4, False)
        self.check(cyc(12, range(0, 3), range(3, 6), range(6, 9), range(9, 12)), 3, False)
        self.check(cyc(12, range(0, 3), range(3, 6), range(6, 9)), 3, True)

    def test_smallest_length_is_told(self):
        self.assertEqual(root_obstacle(cyc(7, (0, 1), (2, 3, 4, 5)), 2), (2, 1, 2))
        self.assertEqual(root_obstacle(cyc(8, (0, 1), (2, 3), (4, 5, 6, 7)), 2), (4, 1, 2))
        self.assertEqual(root_obstacle(cyc(9, (0, 1), (2, 3, 4), (5, 6, 7)), 6), (2, 1, 2))

    def test_wrong_values(self):
        for function in (root, root_obstacle):
            for value in (0, -1, None, True, False, "2", (2,), [2], {}, -10 ** 50):
                expect(self, BadExponent, {}, function, (1, 0), value)
            for value in ODD_VALUES:
                expect(self, BadPermutation, {}, function, value, 2)
                expect(self, BadPermutation, {}, function, value, 0)


if __name__ == "__main__":
    unittest.main()
