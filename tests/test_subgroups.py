import itertools
import unittest

from brute import ODD_VALUES, SQUARE, closure, cyc, expect, members, one, ring, symmetric
from small import (
    ALTERNATING_5, FIVE_PAIRS, GREAT, QUATERNIONS, TOO_GREAT, UP_TO_24, UP_TO_60, all_subgroups, normal_ones,
)
from stronggens.errors import BadGroup, BadPermutation, NotMember, TooMany
from stronggens.subgroups import frattini, is_non_generator, maximal_subgroups, normal_subgroups, subgroups

LISTS = (subgroups, normal_subgroups, maximal_subgroups, frattini)


def maximal(group):
    parts = all_subgroups(group)[:-1]
    return [part for part in parts if not any(set(part) < set(other) for other in parts)]


class TestSubgroups(unittest.TestCase):
    def test_all_of_them(self):
        for group in UP_TO_60:
            told = subgroups(group)
            self.assertEqual(told, all_subgroups(group))
            self.assertEqual(told[-1], tuple(members(group)))
        numbers = [len(subgroups(group)) for group in (symmetric(4), ALTERNATING_5, QUATERNIONS, SQUARE, FIVE_PAIRS, (1, ()))]
        self.assertEqual(numbers, [30, 59, 6, 10, 374, 1])

    def test_straight_from_the_definition(self):
        for group in UP_TO_24:
            rows = members(group)
            if len(rows) <= 8:
                found = [part for size in range(1, len(rows) + 1) for part in itertools.combinations(rows, size)
                         if list(part) == closure(group[0], part)]
                self.assertEqual(subgroups(group), found)

    def test_normal_ones(self):
        for group in UP_TO_60:
            self.assertEqual(normal_subgroups(group), normal_ones(group))
        self.assertEqual([len(part) for part in normal_subgroups(symmetric(4))], [1, 4, 12, 24])

    def test_maximal_ones(self):
        for group in UP_TO_60:
            self.assertEqual(maximal_subgroups(group), maximal(group))
        self.assertEqual(maximal_subgroups((3, ())), [])
        self.assertEqual(maximal_subgroups((2, ((1, 0),))), [((0, 1),)])

    def test_other_generators(self):
        for group in UP_TO_24:
            rows = members(group)
            other = (group[0], (one(group[0]),) + group[1][::-1] + tuple(rows[-2:]) + group[1][:1])
            for function in LISTS:
                self.assertEqual(function(other), function(group))


class TestNonGenerators(unittest.TestCase):
    def test_frattini(self):
        for group in UP_TO_60:
            parts = maximal(group)
            meet = set(members(group)).intersection(*parts)
            self.assertEqual(frattini(group), tuple(sorted(meet)))
        self.assertEqual(frattini((2, ((0, 1),))), ((0, 1),))
        self.assertEqual(len(frattini((8, (ring(8),)))), 4)

    def test_by_all_sets(self):
        """An element is none if some set makes the group with it, but not alone."""
        for group in UP_TO_24:
            rows = members(group)
            if len(rows) > 12:
                continue
            spans = {tuple(closure(group[0], part)) for size in range(4) for part in itertools.combinations(rows, size)}
            for p in rows:
                needed = [part for part in spans if len(closure(group[0], part + (p,))) == len(rows) > len(part)]
                self.assertIs(is_non_generator(group, p), not needed)

    def test_those_of_the_frattini_subgroup(self):
        for group in UP_TO_60:
            told = frattini(group)
            for p in members(group)[:20]:
                self.assertIs(is_non_generator(group, p), p in told)
        self.assertIs(is_non_generator((3, ()), (0, 1, 2)), True)
        self.assertIs(is_non_generator((2, ((1, 0),)), (1, 0)), False)


class TestErrors(unittest.TestCase):
    def test_groups(self):
        for value, index in ((None, None), ((13, ()), None), ((3, [ring(3)]), None), ((3, (ring(3), (0, 1))), 1), ((1, ((0, 1),)), 0)):
            for function in LISTS:
                expect(self, BadGroup, {"index": index}, function, value)
            expect(self, BadGroup, {"index": index}, is_non_generator, value, None)

    def test_too_many(self):
        for group in GREAT + TOO_GREAT + ((9, (ring(9), cyc(9, (1, 8), (2, 7), (3, 6), (4, 5)), cyc(9, (0, 3, 6)))),):
            for function in LISTS:
                expect(self, TooMany, {"most": 60}, function, group)
            expect(self, TooMany, {"most": 60}, is_non_generator, group, one(group[0]))
            expect(self, BadPermutation, {}, is_non_generator, group, None)
        expect(self, NotMember, {}, is_non_generator, (12, ((ring(7) + tuple(range(7, 12))), cyc(12, (0, 1)))), ring(12))
        self.assertEqual(len(subgroups(ALTERNATING_5)), 59)

    def test_permutations(self):
        for value in ODD_VALUES + ((1, 0), (0, 1, 2, 3, 4), (0, 1, 2, 2), (0, 1, 2, True), [0, 1, 2, 3]):
            expect(self, BadPermutation, {}, is_non_generator, SQUARE, value)
        for p in set(members(symmetric(4))) - set(members(SQUARE)):
            expect(self, NotMember, {}, is_non_generator, SQUARE, p)


if __name__ == "__main__":
    unittest.main()
