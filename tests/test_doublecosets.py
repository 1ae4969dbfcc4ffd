import itertools
import unittest

from brute import MATHIEU_11, ODD_VALUES, SMALL, SQUARE, cyc, expect, members, one, ring, run_steps, shuffled, symmetric, times
from small import GREAT, TOO_GREAT, UP_TO_24, all_subgroups, as_group
from stronggens.doublecosets import double_coset, double_cosets, double_path
from stronggens.errors import BadDegree, BadGroup, BadPermutation, NotSubgroup, TooMany
from stronggens.programs import run_program
from test_primes import WRONG_GROUPS

THREE, FLIP = symmetric(3), (3, ((1, 0, 2),))
SOME = [group for group in SMALL if group[0] in (3, 4, 5) and len(members(group)) <= 24]


def plain_coset(lefts, rights, p):
    return {times(times(h, p), k) for h in lefts for k in rights}


class TestDoubleCoset(unittest.TestCase):
    def test_all_products(self):
        for left, right in itertools.product(SOME, repeat=2):
            if left[0] == right[0]:
                lefts, rights = members(left), members(right)
                for seed in range(3):
                    p = shuffled(left[0], seed)
                    told = plain_coset(lefts, rights, p)
                    self.assertEqual(double_coset(left, right, p), (min(told), len(told)))
                    for q in sorted(told)[::7] + [shuffled(left[0], seed + 9)]:
                        self.check_path(left, right, p, q, told)

    def check_path(self, left, right, p, q, told):
        pair = double_path(left, right, p, q)
        self.assertEqual(pair is not None, q in told)
        if pair is not None:
            h, k = run_program(left, pair[0]), run_program(right, pair[1])
            self.assertEqual((h, k), (run_steps(*left, pair[0]), run_steps(*right, pair[1])))
            self.assertEqual(times(times(h, p), k), q)

    def test_great_groups(self):
        for group in GREAT:
            for right in (group, (group[0], ()), (group[0], (shuffled(group[0], 8),))):
                p = shuffled(group[0], 5)
                lefts, rights = members(group), members(right)
                if len(lefts) * len(rights) <= 60000:
                    told = plain_coset(lefts, rights, p)
                    call = (group, right, p)
                    if len(told) > 2000:
                        expect(self, TooMany, {"most": 2000}, double_coset, *call)
                        expect(self, TooMany, {"most": 2000}, double_path, *call, p)
                    else:
                        self.assertEqual(double_coset(*call), (min(told), len(told)))
                        for q in sorted(told)[:: 1 + len(told) // 5]:
                            self.check_path(*call, q, told)

    def test_two_thousand(self):
        nine, five = cyc(12, range(9)), cyc(12, range(5))
        for left, right, many in (((12, (nine,)), (12, ()), 9), ((12, (five, cyc(12, range(5, 9)))), (12, (cyc(12, (9, 10, 11)),)), 60)):
            self.assertEqual(double_coset(left, right, one(12))[1], many)
        self.assertEqual(double_coset(symmetric(6), symmetric(6), ring(6)), (one(6), 720))
        expect(self, TooMany, {"most": 2000}, double_coset, symmetric(7), (7, ()), one(7))
        expect(self, TooMany, {"most": 2000}, double_coset, (7, ()), symmetric(7), one(7))
        expect(self, TooMany, {"most": 2000}, double_path, symmetric(12), symmetric(12), one(12), one(12))
        expect(self, TooMany, {"most": 2000}, double_path, (11, ()), MATHIEU_11, one(11), one(11))
        # 1296 elements on the left, and 2 on the right: 1296 or 2592.
        left = (12, tuple(cyc(12, *rows) for k in range(0, 12, 3) for rows in (((k, k + 1, k + 2),), ((k, k + 1),))))
        self.assertEqual(double_coset(left, (12, (cyc(12, (3, 4)),)), one(12))[1], 1296)
        expect(self, TooMany, {"most": 2000}, double_coset, left, (12, (cyc(12, (2, 3)),)), one(12))

    def test_errors(self):
        for function, more in ((double_coset, (None,)), (double_path, (None, None))):
            for value, index in WRONG_GROUPS:
                expect(self, BadGroup, {"index": index}, function, value, None, *more)
                expect(self, BadGroup, {"index": index}, function, THREE, value, *more)
            expect(self, BadDegree, {}, function, THREE, (4, ()), *more)
            expect(self, BadDegree, {}, function, symmetric(12), symmetric(11), *more)
        for value in ODD_VALUES + ((0, 1), (0, 1, 2, 3), (0, 1, True), [0, 1, 2]):
            expect(self, BadPermutation, {}, double_coset, THREE, FLIP, value)
            expect(self, BadPermutation, {}, double_path, THREE, FLIP, value, None)
            expect(self, BadPermutation, {}, double_path, THREE, FLIP, value, one(3))
            expect(self, BadPermutation, {}, double_path, THREE, FLIP, one(3), value)
            expect(self, BadPermutation, {}, double_path, symmetric(12), symmetric(12), one(12), value)


class TestDoubleCosets(unittest.TestCase):
    def check(self, group, left, right):
        rows = members(group)
        lefts, rights = members(left), members(right)
        found = []
        gone = set()
        for p in rows:
            if p not in gone:
                told = plain_coset(lefts, rights, p)
                found.append((p, len(told)))
                gone |= told
        self.assertEqual(double_cosets(group, left, right), tuple(found))
        self.assertEqual(sum(many for _, many in found), len(rows))

    def test_a_partition(self):
        for group in UP_TO_24:
            parts = all_subgroups(group)
            for left, right in itertools.product(parts[::2], parts[1::3]):
                self.check(group, as_group(left), as_group(right))

    def test_great_groups(self):
        for group in GREAT + (symmetric(6),):
            stabilizer = (group[0], tuple(p for p in members(group)[:200] if p[0] == 0)[1:13:2])
            for left, right in ((stabilizer, stabilizer), (stabilizer, (group[0], group[1][:1])), (group, stabilizer)):
                self.check(group, left, right)
        self.assertEqual(len(double_cosets(symmetric(5), (5, symmetric(5)[1][1:]), (5, ()))), 60)

    def test_all_of_the_group(self):
        self.assertEqual(double_cosets((3, ()), (3, ()), (3, ())), ((one(3), 1),))
        self.assertEqual(double_cosets(SQUARE, SQUARE, (4, ())), ((one(4), 8),))
        self.assertEqual(double_cosets(SQUARE, (4, ()), (4, ())), tuple((p, 1) for p in members(SQUARE)))
        self.assertEqual(double_cosets(THREE, FLIP, FLIP), ((one(3), 2), ((0, 2, 1), 4)))

    def test_errors(self):
        turn = (3, (ring(3),))
        for value, index in WRONG_GROUPS:
            expect(self, BadGroup, {"index": index}, double_cosets, value, None, None)
            expect(self, BadGroup, {"index": index}, double_cosets, THREE, value, None)
            expect(self, BadGroup, {"index": index}, double_cosets, THREE, FLIP, value)
            # All errors of left come ahead of those of right.
            expect(self, BadDegree, {}, double_cosets, THREE, (2, ()), value)
            expect(self, NotSubgroup, {}, double_cosets, turn, FLIP, value)
        expect(self, BadDegree, {}, double_cosets, THREE, (4, ()), (4, ()))
        expect(self, BadDegree, {}, double_cosets, THREE, FLIP, (4, ()))
        expect(self, NotSubgroup, {}, double_cosets, turn, FLIP, (4, ()))
        expect(self, NotSubgroup, {}, double_cosets, turn, turn, FLIP)
        expect(self, BadDegree, {}, double_cosets, turn, turn, (2, ((1, 0),)))
        for group in TOO_GREAT:
            trivial = (group[0], ())
            expect(self, TooMany, {"most": 2000}, double_cosets, group, trivial, group)
            expect(self, BadDegree, {}, double_cosets, group, trivial, (1, ()))
            expect(self, NotSubgroup, {}, double_cosets, (12, TOO_GREAT[1][1][:1]), (12, ()), symmetric(12))


if __name__ == "__main__":
    unittest.main()
