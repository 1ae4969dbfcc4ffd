import itertools
import unittest

from brute import ODD_VALUES, closure, cyc, expect, members, one, ring, symmetric
from small import ALTERNATING_5, GREAT, TOO_GREAT, UP_TO_24, UP_TO_60, all_subgroups
from stronggens.errors import BadGroup, BadNumber, TooMany
from stronggens.moebius import generating_tuples, moebius
from test_primes import WRONG_GROUPS


class TestMoebius(unittest.TestCase):
    def test_sums_above_each_subgroup(self):
        for group in UP_TO_60:
            told = moebius(group)
            self.assertEqual([part for part, _ in told], all_subgroups(group))
            self.assertEqual(told[-1], (tuple(members(group)), 1))
            sets = [(set(part), number) for part, number in told]
            for part, _ in told[:-1]:
                self.assertEqual(sum(number for known, number in sets if known.issuperset(part)), 0)

    def test_known_numbers(self):
        self.assertEqual([number for _, number in moebius((6, (ring(6),)))], [1, -1, -1, 1])
        self.assertEqual(moebius((8, (ring(8),)))[0][1], 0)
        self.assertEqual(moebius(ALTERNATING_5)[0][1], -60)
        pairs = (10, tuple(cyc(10, (2 * k, 2 * k + 1)) for k in range(5)))
        self.assertEqual(moebius(pairs)[0][1], -1024)
        self.assertEqual(moebius((3, ())), [((one(3),), 1)])

    def test_new_lists(self):
        found = moebius(symmetric(3))
        found.clear()
        self.assertEqual(len(moebius(symmetric(3))), 6)


class TestGeneratingTuples(unittest.TestCase):
    def test_one_by_one(self):
        for group in UP_TO_24:
            degree, rows = group[0], members(group)
            for many in (0, 1, 2):
                expected = sum(len(closure(degree, told)) == len(rows) for told in itertools.product(rows, repeat=many))
                self.assertEqual(generating_tuples(group, many), expected)

    def test_three(self):
        for group in [group for group in UP_TO_24 if len(members(group)) <= 8]:
            rows = members(group)
            expected = sum(len(closure(group[0], told)) == len(rows) for told in itertools.product(rows, repeat=3))
            self.assertEqual(generating_tuples(group, 3), expected)

    def test_twenty(self):
        for group in UP_TO_60:
            sums = {part: 0 for part in all_subgroups(group)}
            for part in sums:
                inside = [other for other in sums if other != part and set(part).issuperset(other)]
                sums[part] = len(part) ** 20 - sum(sums[other] for other in inside)
            self.assertEqual(generating_tuples(group, 20), sums[tuple(members(group))])

    def test_edges(self):
        self.assertEqual([generating_tuples((3, ()), many) for many in (0, 1, 20)], [1, 1, 1])
        self.assertEqual([generating_tuples((2, ((1, 0),)), many) for many in (0, 1, 2, 20)], [0, 1, 3, 2 ** 20 - 1])
        self.assertEqual(generating_tuples(ALTERNATING_5, 2), 2280)

    def test_errors(self):
        for value, index in WRONG_GROUPS:
            expect(self, BadGroup, {"index": index}, moebius, value)
            expect(self, BadGroup, {"index": index}, generating_tuples, value, None)
        for group in TOO_GREAT + GREAT:
            expect(self, TooMany, {"most": 60}, moebius, group)
            for value in (2, -1, None):
                expect(self, TooMany, {"most": 60}, generating_tuples, group, value)
        for value in ODD_VALUES + (-1, 21, 10 ** 30, True, False, "2", (2,), 2.0):
            if value != 13 and (type(value) is not int or not 0 <= value <= 20):
                expect(self, BadNumber, {}, generating_tuples, symmetric(3), value)


if __name__ == "__main__":
    unittest.main()
