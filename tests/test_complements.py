import itertools
import unittest

from brute import ODD_VALUES, SQUARE, cyc, expect, members, one, ring, symmetric, times
from small import LINEAR_SL3, TOO_GREAT, UP_TO_24, UP_TO_60, all_subgroups, as_group, conj, normal_ones
from stronggens.complements import complement_of, complements, crossed_maps
from stronggens.errors import BadGroup, BadMap, NotComplement, NotNormal, NotSubgroup, TooMany
from test_primes import WRONG_GROUPS

# Normal subgroups that do not commute, with complements of more than two elements.
TWO_THREES = (6, (cyc(6, (0, 1, 2)), cyc(6, (0, 1)), cyc(6, (3, 4, 5)), cyc(6, (3, 4))))
UNLIKE = (LINEAR_SL3, TWO_THREES)
THREE, TURNS, FLIP = symmetric(3), (3, (ring(3),)), (3, ((1, 0, 2),))
BENT = ODD_VALUES + (((0, 1, 2),) * 3, ((0, 1, 2), (0, 1)), ((0, 1, 2), [0, 1, 2]), ((0, 1, 2), None), ((0, 1, 2),), [(0, 1, 2), (0, 1, 2)],
                     ((0, 1, 2), (1, 0, 2)), ((1, 2, 0), (0, 1, 2)), ((0, 1, 2), (True, 2, 0)), ((0, 1, 2), ({}, 1, 2)), ((0, 1, 2), (0, 1, 3)))


def plain_complements(group, normal):
    size = len(members(group)) // len(normal)
    return sorted(part for part in all_subgroups(group) if len(part) == size and len(set(part) & set(normal)) == 1)


def is_crossed(rows, value):
    told = dict(zip(rows, value))
    return all(told[times(x, y)] == times(conj(told[x], y), told[y]) for x in rows for y in rows)


def cases(groups):
    for group in groups:
        for normal in normal_ones(group):
            yield group, normal


class TestComplements(unittest.TestCase):
    def test_all_subgroups(self):
        many = 0
        for group, normal in cases(UP_TO_24):
            expected = plain_complements(group, normal)
            self.assertEqual(complements(group, as_group(normal)), expected)
            many += len(expected) == 0
        self.assertGreater(many, 10)

    def test_greater_groups(self):
        for group, normal in cases([group for group in UP_TO_60 if len(members(group)) > 24]):
            self.assertEqual(complements(group, as_group(normal)), plain_complements(group, normal))

    def test_edges(self):
        self.assertEqual(complements((1, ()), (1, ())), [((0,),)])
        self.assertEqual(complements(SQUARE, SQUARE), [(one(4),)])
        self.assertEqual(complements(SQUARE, (4, ())), [tuple(members(SQUARE))])
        self.assertEqual(complements((4, (ring(4),)), (4, ((2, 3, 0, 1),))), [])
        found = complements(SQUARE, (4, (ring(4),)))
        found.clear()
        self.assertEqual(len(complements(SQUARE, (4, (ring(4),)))), 4)


class TestCrossedMaps(unittest.TestCase):
    def test_one_for_each_complement(self):
        for group, normal in cases(UP_TO_24 + UP_TO_60[-2:] + UNLIKE):
            found = plain_complements(group, normal)
            for complement in found[:2] + found[-1:]:
                told = crossed_maps(group, as_group(normal), as_group(complement))
                self.assertEqual(told, sorted(told))
                self.assertTrue(all(is_crossed(complement, value) for value in told))
                self.assertTrue(all(p in normal for value in told for p in value))
                made = [complement_of(group, as_group(normal), as_group(complement), value) for value in told]
                self.assertEqual(sorted(made), found)
                for value, part in zip(told, made):
                    self.assertEqual(part, tuple(sorted(times(p, q) for p, q in zip(complement, value))))

    def test_by_all_tuples(self):
        many = 0
        for group, normal in cases(UP_TO_24):
            for complement in plain_complements(group, normal)[:1]:
                if len(normal) ** len(complement) <= 4096:
                    tuples = itertools.product(normal, repeat=len(complement))
                    expected = [value for value in tuples if is_crossed(complement, value)]
                    self.assertEqual(crossed_maps(group, as_group(normal), as_group(complement)), expected)
                    many += 1
        self.assertGreater(many, 30)

    def test_bent_values(self):
        for group, normal in cases(UP_TO_24 + UNLIKE):
            rows = members(group)
            for complement in plain_complements(group, normal)[:1]:
                told = crossed_maps(group, as_group(normal), as_group(complement))
                for value in told[:2] + told[-1:]:
                    self.check_bent(group, normal, complement, rows, value)

    def check_bent(self, group, normal, complement, rows, value):
        bent = [value + value[:1], value[1:], list(value), value[:-1] + (list(value[-1]),), value[:-1] + (value[-1] + (0,),)]
        for place in range(len(value)):
            for p in rows[:: 1 + len(rows) // 6]:
                changed = value[:place] + (p,) + value[place + 1:]
                if not all(q in normal for q in changed) or not is_crossed(complement, changed):
                    bent.append(changed)
        for changed in bent:
            expect(self, BadMap, {}, complement_of, group, as_group(normal), as_group(complement), changed)

    def test_values_of_all_kinds(self):
        for value in BENT:
            expect(self, BadMap, {}, complement_of, THREE, TURNS, FLIP, value)


class TestErrors(unittest.TestCase):
    great = (5, symmetric(5)[1])
    functions = (complements, crossed_maps, complement_of)

    def call(self, error, fields, function, *args):
        """The call with as many of the arguments as the function takes."""
        many = {complements: 2, crossed_maps: 3, complement_of: 4}[function]
        expect(self, error, fields, function, *args[:many])

    def test_groups_come_first(self):
        for function in self.functions:
            for value, index in WRONG_GROUPS:
                self.call(BadGroup, {"index": index}, function, value, None, 7, None)
                self.call(BadGroup, {"index": index}, function, THREE, value, 7, None)
                if function is not complements:
                    self.call(BadGroup, {"index": index}, function, THREE, FLIP, value, None)
                    self.call(BadGroup, {"index": index}, function, THREE, (4, ()), value, None)

    def test_subgroups(self):
        for function in self.functions:
            for wrong in ((4, ()), (2, ()), (3, (ring(3), (1, 0, 2)))):
                self.call(NotSubgroup, {}, function, TURNS, wrong, wrong, None)
                if function is not complements:
                    self.call(NotSubgroup, {}, function, TURNS, TURNS, wrong, None)
        for function in (crossed_maps, complement_of):
            # Ahead of NotNormal and of TooMany.
            expect(self, NotSubgroup, {}, function, THREE, FLIP, (4, ()), *[None] * (function is complement_of))
            expect(self, NotSubgroup, {}, function, TURNS, FLIP, TURNS, *[None] * (function is complement_of))
            expect(self, NotSubgroup, {}, function, TURNS, (4, ()), TURNS, *[None] * (function is complement_of))
            expect(self, NotSubgroup, {}, function, self.great, FLIP, (4, ()), *[None] * (function is complement_of))
            expect(self, NotSubgroup, {}, function, self.great, self.great, (4, ()), *[None] * (function is complement_of))

    def test_too_many_comes_ahead_of_the_rest(self):
        flip = (5, ((1, 0, 2, 3, 4),))
        for group in (self.great, ) + TOO_GREAT:
            part = (group[0], (cyc(group[0], (0, 1)),))
            for function in self.functions:
                self.call(TooMany, {"most": 60}, function, group, part, part, None)
                self.call(TooMany, {"most": 60}, function, group, group, group, None)
        self.call(NotNormal, {}, complements, (5, (ring(5), cyc(5, (0, 1, 2)))), (5, (ring(5),)))
        self.call(TooMany, {"most": 60}, complements, self.great, flip)

    def test_not_normal_then_no_complement_then_no_map(self):
        for function in self.functions:
            self.call(NotNormal, {}, function, THREE, FLIP, FLIP, None)
        for function in (crossed_maps, complement_of):
            for wrong in (TURNS, THREE, (3, ())):
                self.call(NotComplement, {}, function, THREE, TURNS, wrong, None)
            # As many elements as there are cosets, but more in common than the identity.
            self.call(NotComplement, {}, function, SQUARE, (4, (ring(4),)), (4, ((2, 3, 0, 1),)), None)


if __name__ == "__main__":
    unittest.main()
