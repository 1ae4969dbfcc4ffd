import itertools
import unittest

from brute import ODD_VALUES, SMALL, SQUARE, cyc, expect, members, one, ring, symmetric, times
from small import (
    ALTERNATING_5, FIVE_PAIRS, GREAT, QUATERNIONS, TOO_GREAT, UP_TO_24, all_subgroups, as_group, is_normal_in,
)
from stronggens.errors import BadGroup, NotSubgroup, TooMany
from stronggens.products import direct_product, goursat, matched_count, matched_subgroups, sections
from test_primes import WRONG_GROUPS

THREE, FLIP, FOUR = (3, ((1, 2, 0), (1, 0, 2))), (2, ((1, 0),)), (4, ((1, 0, 3, 2), (2, 3, 0, 1)))
SWAPS_OF_6, SWAPS_OF_4 = (tuple(cyc(degree, (k, k + 1)) for k in range(0, degree, 2)) for degree in (6, 4))
PAIR_FUNCTIONS = (direct_product, matched_subgroups, matched_count)


def product_of(one_group, other):
    degree = one_group[0] + other[0]
    some = [p + tuple(range(one_group[0], degree)) for p in one_group[1]]
    return degree, tuple(some + [one(one_group[0]) + tuple(x + one_group[0] for x in p) for p in other[1]])


def pairs_of_groups(most):
    for one_group, other in itertools.product(SMALL + (QUATERNIONS,), repeat=2):
        if one_group[0] + other[0] <= 12 and len(one_group[1]) + len(other[1]) <= 12:
            if len(members(one_group)) * len(members(other)) <= most:
                yield one_group, other


def factor_table(upper, lower):
    """The products of the cosets of lower in upper, by their numbers."""
    cosets = sorted({tuple(sorted(times(h, p) for h in lower)) for p in upper})
    places = {p: k for k, told in enumerate(cosets) for p in told}
    return tuple(tuple(places[times(a[0], b[0])] for b in cosets) for a in cosets)


def map_count(table, other):
    """The number of isomorphisms of two tables of products, of which the first rows are those of the identity."""
    size = len(table)
    return sum(all(told[table[a][b]] == other[told[a]][told[b]] for a in range(size) for b in range(size))
               for told in itertools.permutations(range(size)) if told[0] == 0) if size == len(other) else 0


class TestDirectProduct(unittest.TestCase):
    def test_points_and_generators(self):
        for one_group, other in pairs_of_groups(200):
            told = direct_product(one_group, other)
            self.assertEqual(told, product_of(one_group, other))
            self.assertEqual(len(members(told)), len(members(one_group)) * len(members(other)))
        self.assertEqual(direct_product((1, ()), (1, ())), (2, ()))
        self.assertEqual(direct_product((1, ((0,),)), (2, ())), (3, ((0, 1, 2),)))

    def test_limits(self):
        six = (6, (ring(6),) * 6)
        self.assertEqual(direct_product(six, six)[0], 12)
        self.assertEqual(len(direct_product(six, six)[1]), 12)
        expect(self, TooMany, {"most": 12}, direct_product, six, (6, (ring(6),) * 7))
        expect(self, TooMany, {"most": 12}, direct_product, six, (7, ()))
        expect(self, TooMany, {"most": 12}, direct_product, (1, ()), (12, ()))
        self.assertEqual(direct_product((1, ()), (11, (ring(11),)))[0], 12)
        self.assertEqual(direct_product(symmetric(6), symmetric(6))[0], 12)


class TestSections(unittest.TestCase):
    def test_all_of_them(self):
        for group in UP_TO_24 + (ALTERNATING_5,):
            parts = all_subgroups(group)
            expected = [(upper, lower) for upper in parts for lower in parts if set(lower) <= set(upper) and is_normal_in(lower, upper)]
            self.assertEqual(sections(group), expected)
        self.assertEqual([len(sections(group)) for group in ((1, ()), FLIP, FOUR, THREE)], [1, 3, 12, 12])
        self.assertEqual(len(sections(FIVE_PAIRS)), 5769)


class TestGoursat(unittest.TestCase):
    def test_all_subgroups(self):
        for one_group, other in pairs_of_groups(24):
            low, high = one(one_group[0]), one(other[0])
            for part in all_subgroups(product_of(one_group, other)):
                pairs = [(p[:len(low)], tuple(x - len(low) for x in p[len(low):])) for p in part]
                expected = (sorted({p for p, _ in pairs}), sorted({p for p, q in pairs if q == high}),
                            sorted({q for _, q in pairs}), sorted({q for p, q in pairs if p == low}))
                self.assertEqual(goursat(one_group, other, as_group(part)), tuple(map(tuple, expected)))

    def test_errors(self):
        for value, index in WRONG_GROUPS:
            expect(self, BadGroup, {"index": index}, goursat, value, None, None)
            expect(self, BadGroup, {"index": index}, goursat, THREE, value, None)
            expect(self, BadGroup, {"index": index}, goursat, THREE, symmetric(12), value)
        expect(self, TooMany, {"most": 12}, goursat, THREE, (10, ()), (3, ()))
        expect(self, TooMany, {"most": 12}, goursat, (3, (ring(3),) * 7), (3, (ring(3),) * 6), (3, ()))
        for part in ((3, ()), (6, ()), (5, (cyc(5, (3, 4), (0, 1, 2)), cyc(5, (0, 3)))), (5, (cyc(5, (0, 1)),))):
            expect(self, NotSubgroup, {}, goursat, (3, (ring(3),)), FLIP, part)
        expect(self, NotSubgroup, {}, goursat, symmetric(6), symmetric(6), (11, ()))
        expect(self, NotSubgroup, {}, goursat, symmetric(6), symmetric(6), (12, (ring(12),)))
        expect(self, TooMany, {"most": 60}, goursat, symmetric(6), symmetric(6), (12, ()))
        expect(self, TooMany, {"most": 60}, goursat, SQUARE, SQUARE, (8, ()))


class TestMatched(unittest.TestCase):
    def test_subgroups(self):
        for one_group, other in list(pairs_of_groups(24)) + [(THREE, SQUARE), (SQUARE, THREE), (THREE, THREE)]:
            told = matched_subgroups(one_group, other)
            self.assertEqual(told, all_subgroups(product_of(one_group, other)))

    def test_both_agree(self):
        for one_group, other in pairs_of_groups(60):
            self.assertEqual(matched_count(one_group, other), len(matched_subgroups(one_group, other)))
        three_pairs, two_pairs = (6, SWAPS_OF_6), (4, SWAPS_OF_4)
        for one_group, other in (((1, ()), ALTERNATING_5), (ALTERNATING_5, (1, ())), (FIVE_PAIRS, (2, ())), (three_pairs, two_pairs),
                                 ((7, (ring(7),)), (4, (ring(4), ring(4)))), ((5, (cyc(5, (0, 1, 2)), cyc(5, (0, 1)))), SQUARE),
                                 ((3, (ring(3),)), symmetric(3))):
            self.assertEqual(matched_count(one_group, other), len(matched_subgroups(one_group, other)))

    def test_by_factor_groups(self):
        for one_group, other in pairs_of_groups(36):
            if len(members(one_group)) <= 6 and len(members(other)) <= 6:
                some = [factor_table(*told) for told in sections(one_group)]
                others = [factor_table(*told) for told in sections(other)]
                expected = sum(map_count(table, match) for table in some for match in others)
                self.assertEqual(matched_count(one_group, other), expected)
        self.assertEqual(matched_count(FOUR, FOUR), 67)
        self.assertEqual(matched_count(THREE, THREE), 60)

    def test_errors(self):
        for value, index in WRONG_GROUPS:
            for function in PAIR_FUNCTIONS:
                expect(self, BadGroup, {"index": index}, function, value, None)
                expect(self, BadGroup, {"index": index}, function, symmetric(12), value)
            expect(self, BadGroup, {"index": index}, sections, value)
        for group in TOO_GREAT + GREAT:
            expect(self, TooMany, {"most": 60}, sections, group)
        for function in (matched_subgroups, matched_count):
            expect(self, TooMany, {"most": 12}, function, symmetric(7), symmetric(6))
            expect(self, TooMany, {"most": 12}, function, (1, ((0,),) * 12), FLIP)
            expect(self, TooMany, {"most": 60}, function, symmetric(6), symmetric(6))
            expect(self, TooMany, {"most": 60}, function, SQUARE, SQUARE)
        for value in ODD_VALUES:
            expect(self, BadGroup, {"index": None}, direct_product, FLIP, value)


if __name__ == "__main__":
    unittest.main()
