import itertools
import unittest

from brute import MATHIEU_12, ODD_VALUES, SQUARE, all_perms, cyc, expect, members, one, ring, symmetric, times
from gsets import (
    NO_GSETS, beside, fixed, images_of, plain_coset_set, renamed, some_gsets, stabilizer,
)
from small import GREAT, TOO_GREAT, UP_TO_24, UP_TO_60, all_subgroups, as_group
from stronggens.errors import BadGroup, BadGset, BadPoint, NotSubgroup, TooMany
from stronggens.gsets import (
    coset_set, fixed_points, gset_difference, is_gset, same_characters, same_gsets, stabilizer_of,
)
from test_primes import WRONG_GROUPS

FLIP, THREE, FOUR = (2, ((1, 0),)), symmetric(3), (4, ((1, 0, 3, 2), (2, 3, 0, 1)))
ACTED = [group for group in UP_TO_24 if group[1]]
PAIRED = (same_gsets, gset_difference, same_characters)


class TestIsGset(unittest.TestCase):
    def test_all_tuples(self):
        kinds = {True: 0, False: 0}
        for group in [group for group in ACTED if len(group[1]) <= 2]:
            for size in (1, 2, 3):
                for value in itertools.product(all_perms(size), repeat=len(group[1])):
                    told = images_of(group, value) is not None
                    self.assertIs(is_gset(group, value), told)
                    kinds[told] += 1
        self.assertGreater(min(kinds.values()), 100)

    def test_bent_ones(self):
        kinds = {True: 0, False: 0}
        for group in ACTED:
            for gset in some_gsets(group):
                self.assertIs(is_gset(group, gset), True)
                size = len(gset[0])
                for place in range(len(gset)):
                    for swap in (cyc(size, (0, size - 1)), cyc(size, tuple(range(min(size, 3))))):
                        value = gset[:place] + (times(gset[place], swap),) + gset[place + 1:]
                        told = images_of(group, value) is not None
                        self.assertIs(is_gset(group, value), told)
                        kinds[told] += 1
        self.assertGreater(min(kinds.values()), 20)

    def test_sizes(self):
        for size in (1, 2, 59, 60, 61, 62):
            self.assertIs(is_gset(FLIP, (one(size),)), size <= 60)
            self.assertIs(is_gset((12, (ring(12), one(12))), (one(size), one(size))), size <= 60)
        self.assertIs(is_gset(FLIP, ((),)), False)
        self.assertIs(is_gset((5, (ring(5),)), (cyc(60, *[tuple(range(k, k + 5)) for k in range(0, 60, 5)]),)), True)
        self.assertIs(is_gset((5, (ring(5),)), (ring(60),)), False)

    def test_a_word_with_one_value_and_two_images(self):
        # The two generators are equal, so their images must be, too.
        twice = (2, ((1, 0), (1, 0)))
        self.assertIs(is_gset(twice, ((1, 0, 2), (1, 0, 2))), True)
        self.assertIs(is_gset(twice, ((1, 0, 2), (0, 2, 1))), False)
        self.assertIs(is_gset((2, ((0, 1),)), ((1, 0),)), False)
        self.assertIs(is_gset((2, ((0, 1),)), ((0, 1, 2),)), True)
        self.assertIs(is_gset(FOUR, ((1, 0, 2), (0, 2, 1))), False)
        self.assertIs(is_gset(FOUR, ((1, 0, 2, 3), (0, 1, 3, 2))), True)

    def test_great_groups(self):
        for degree in (9, 12):
            group = symmetric(degree)
            signs = ((1, 0) if degree % 2 == 0 else (0, 1), (1, 0))
            self.assertIs(is_gset(group, signs), True)
            self.assertIs(is_gset(group, signs[::-1]), degree % 2 == 0)
            self.assertIs(is_gset(group, group[1]), True)
            self.assertIs(is_gset(group, beside(group[1], signs, group[1], renamed(group[1], 5))), True)
            self.assertIs(is_gset(group, (ring(60), cyc(60, (0, 1)))), False)
            self.assertIs(is_gset(group, group[1][:1] + (cyc(degree, (0, 2)),)), False)
            self.assertIs(is_gset(group, (one(3), ring(3))), False)
        self.assertIs(is_gset(MATHIEU_12, MATHIEU_12[1]), True)
        self.assertIs(is_gset(MATHIEU_12, ((1, 0),) + ((0, 1),) * 2), False)
        # The six synthemes' totals: the symmetric group of six points acts on them in its other way.
        outer = (cyc(6, (0, 1, 2), (3, 4)), cyc(6, (0, 1), (2, 3), (4, 5)))
        self.assertIs(is_gset(symmetric(6), (symmetric(6)[1][0], outer[1])), False)

    def test_pairs_of_points(self):
        for group in (symmetric(8), MATHIEU_12[:1] + (MATHIEU_12[1][:2],), symmetric(11)):
            pairs = list(itertools.combinations(range(group[0]), 2))[:60]
            if len(pairs) == group[0] * (group[0] - 1) // 2:
                gset = tuple(tuple(pairs.index(tuple(sorted((p[a], p[b])))) for a, b in pairs) for p in group[1])
                self.assertIs(is_gset(group, gset), True)
                self.assertIs(is_gset(group, (times(gset[0], gset[1]),) + gset[1:]), False)

    def test_values_of_all_kinds(self):
        for value in NO_GSETS:
            for group in (FLIP, (3, ()), THREE, (1, ()), symmetric(12)):
                self.assertIs(is_gset(group, value), False, value)
        for group in (THREE, (1, ())):
            self.assertIs(is_gset(group, ((0,),)), False)
        self.assertIs(is_gset((1, ()), ()), False)

    def test_only_bad_group(self):
        for value, index in WRONG_GROUPS:
            expect(self, BadGroup, {"index": index}, is_gset, value, None)
        self.assertIs(is_gset(TOO_GREAT[0], None), False)


class TestCosetSet(unittest.TestCase):
    def test_by_the_definition(self):
        for group in ACTED:
            for part in all_subgroups(group):
                self.assertEqual(coset_set(group, as_group(part)), plain_coset_set(group, part))
                self.assertIs(is_gset(group, plain_coset_set(group, part)), True)

    def test_sixty(self):
        for group in [group for group in UP_TO_60 if len(members(group)) > 24]:
            for part in all_subgroups(group)[::3]:
                self.assertEqual(coset_set(group, as_group(part)), plain_coset_set(group, part))
        for group, part, many in ((symmetric(5), (5, ((1, 0, 2, 3, 4),)), 60), (symmetric(6), symmetric(6), 1),
                                  (symmetric(6), (6, (cyc(6, (0, 1, 2)), cyc(6, (0, 1)), cyc(6, (3, 4)))), 60)):
            self.assertEqual(len(coset_set(group, part)[0]), many)
            self.assertEqual(coset_set(group, part), plain_coset_set(group, members(part)))
        expect(self, TooMany, {"most": 60}, coset_set, symmetric(5), (5, ()))
        expect(self, TooMany, {"most": 60}, coset_set, symmetric(6), (6, (cyc(6, (0, 1, 2)), cyc(6, (3, 4, 5)))))

    def test_errors(self):
        for value, index in WRONG_GROUPS:
            expect(self, BadGroup, {"index": index}, coset_set, value, None)
            expect(self, BadGroup, {"index": index}, coset_set, THREE, value)
            expect(self, BadGroup, {"index": None}, coset_set, (3, ()), value)
            expect(self, TooMany, {"most": 2000}, coset_set, symmetric(7), value)
        for part in ((2, ()), (4, ()), (3, (ring(3),)), (3, ())):
            expect(self, BadGroup, {"index": None}, coset_set, (3, ()), part)
        for part in ((2, ()), (4, ()), (3, (ring(3),)), (3, ((0, 1, 2), (1, 0, 2)))):
            expect(self, NotSubgroup, {}, coset_set, (3, ((0, 2, 1),)), part)
        expect(self, NotSubgroup, {}, coset_set, symmetric(5), (6, ()))
        expect(self, TooMany, {"most": 2000}, coset_set, symmetric(7), (6, ()))


class TestPoints(unittest.TestCase):
    def test_by_the_definitions(self):
        for group in ACTED:
            for gset in some_gsets(group):
                images = images_of(group, gset)
                for part in all_subgroups(group):
                    self.assertEqual(fixed_points(group, gset, as_group(part)), fixed(images, part))
                for point in range(len(gset[0])):
                    self.assertEqual(stabilizer_of(group, gset, point), stabilizer(images, point))

    def test_great(self):
        for group in GREAT:
            gset = beside(group[1], (one(1),) * len(group[1]), group[1])
            images = images_of(group, gset)
            for point in (0, group[0], len(gset[0]) - 1):
                self.assertEqual(stabilizer_of(group, gset, point), stabilizer(images, point))
                part = stabilizer(images, point)
                self.assertEqual(fixed_points(group, gset, as_group(part)), fixed(images, part))

    def test_errors(self):
        gset = ((0, 2, 1),)
        for function in (fixed_points, stabilizer_of):
            for value, index in WRONG_GROUPS:
                expect(self, BadGroup, {"index": index}, function, value, None, None)
            for value in NO_GSETS + (((1, 2, 0),), ((0, 2, 1), (0, 2, 1))):
                expect(self, BadGset, {}, function, FLIP, value, None)
                expect(self, TooMany, {"most": 2000}, function, symmetric(7), value, None)
            for value in ((), None, ((0,),)):
                expect(self, BadGset, {}, function, (3, ()), value, None)
        for value, index in WRONG_GROUPS:
            expect(self, BadGroup, {"index": index}, fixed_points, FLIP, gset, value)
        for part in ((3, ()), (1, ())):
            expect(self, NotSubgroup, {}, fixed_points, FLIP, gset, part)
        expect(self, NotSubgroup, {}, fixed_points, (3, (ring(3),)), (ring(3),), symmetric(3))
        self.assertEqual(fixed_points(FLIP, gset, (2, ())), (0, 1, 2))
        for value in ODD_VALUES + (3, -1, True, "0"):
            expect(self, BadPoint, {}, stabilizer_of, FLIP, gset, value)
        # The points are those of the G-set, not those of the group.
        self.assertEqual(stabilizer_of(FLIP, gset, 2), ((0, 1),))
        expect(self, BadPoint, {}, stabilizer_of, symmetric(4), ((1, 0), (1, 0)), 2)


class TestSame(unittest.TestCase):
    def check(self, group, one_set, other):
        """What the three functions must do, checked by all subgroups and elements."""
        some, others = images_of(group, one_set), images_of(group, other)
        unlike = [part for part in all_subgroups(group) if len(fixed(some, part)) != len(fixed(others, part))]
        told = same_gsets(group, one_set, other)
        gap = gset_difference(group, one_set, other)
        if unlike:
            self.assertIsNone(told)
            self.assertIn(gap[0], unlike)
            self.assertEqual(gap, (gap[0], len(fixed(some, gap[0])), len(fixed(others, gap[0]))))
        else:
            self.assertIsNone(gap)
            self.assertEqual(sorted(told), list(range(len(other[0]))))
            self.assertEqual(len(told), len(one_set[0]))
            for p, q in zip(one_set, other):
                self.assertTrue(all(told[p[x]] == q[told[x]] for x in range(len(p))))
        alike = all(len(fixed(some, [p])) == len(fixed(others, [p])) for p in some)
        self.assertIs(same_characters(group, one_set, other), alike)
        return (not unlike, alike)

    def test_pairs(self):
        kinds = {}
        for group in ACTED:
            for gset, other in itertools.product(some_gsets(group), repeat=2):
                for value in (other, renamed(gset, 8)):
                    kind = self.check(group, gset, value)
                    kinds[kind] = kinds.get(kind, 0) + 1
        self.assertGreater(kinds[True, True], 100)
        self.assertGreater(kinds[False, False], 100)

    def test_nearly_isomorphic(self):
        """One orbit is replaced by another one of the same size, or by two halves."""
        for group in ACTED:
            parts = all_subgroups(group)
            base = plain_coset_set(group, parts[len(parts) // 2])
            for part, other in itertools.combinations(parts, 2):
                if len(part) == len(other):
                    one_set, two = plain_coset_set(group, part), plain_coset_set(group, other)
                    if len(base[0]) + len(two[0]) <= 60:
                        self.check(group, renamed(beside(base, one_set), 3), renamed(beside(two, base), 4))

    def test_alike_for_each_element_without_being_isomorphic(self):
        # The four-group: two points moved by each of the three ways, against four points and two fixed ones.
        pairs = beside(((1, 0), (0, 1)), ((0, 1), (1, 0)), ((1, 0), (1, 0)))
        four = beside(((1, 0, 3, 2), (2, 3, 0, 1)), ((0,), (0,)), ((0,), (0,)))
        self.assertEqual(self.check(FOUR, pairs, four), (False, True))
        self.assertEqual(gset_difference(FOUR, pairs, four), (tuple(members(FOUR)), 0, 2))
        points = (7, (cyc(7, (0, 1), (2, 3)), cyc(7, (0, 2, 4), (1, 5, 6))))
        found = 0
        for group in (symmetric(4), SQUARE, points):
            rows = [self.lines(group)] if group == points else []
            for other in rows:
                found += self.check_great(group, group[1], other)
        self.assertEqual(found, 1)

    def lines(self, group):
        """The seven lines of the plane: an orbit of seven sets of three points."""
        for start in itertools.combinations(range(7), 3):
            rows = [start]
            for row in rows:
                rows.extend([image for p in group[1] for image in [tuple(sorted(p[x] for x in row))] if image not in rows])
                rows = sorted(set(rows), key=rows.index)
            closed = {tuple(sorted(p[x] for x in row)) for p in members(group) for row in [start]}
            if len(closed) == 7:
                lines = sorted(closed)
                return tuple(tuple(lines.index(tuple(sorted(p[x] for x in row))) for row in lines) for p in group[1])
        return None

    def check_great(self, group, one_set, other):
        self.assertIs(same_characters(group, one_set, other), True)
        self.assertIsNone(same_gsets(group, one_set, other))
        part, a, b = gset_difference(group, one_set, other)
        some, others = images_of(group, one_set), images_of(group, other)
        self.assertEqual((a, b), (len(fixed(some, part)), len(fixed(others, part))))
        self.assertNotEqual(a, b)
        return 1

    def test_great_groups(self):
        group = symmetric(6)
        gset = beside(group[1], ((1, 0), (1, 0)), group[1])
        told = same_gsets(group, gset, renamed(gset, 9))
        self.assertEqual(sorted(told), list(range(14)))
        self.assertIsNone(gset_difference(group, gset, renamed(gset, 9)))
        self.assertIs(same_characters(group, gset, renamed(gset, 9)), True)
        other = beside(group[1], group[1], ((0, 1), (0, 1)))
        self.assertIsNone(same_gsets(group, gset, other))
        self.assertIs(same_characters(group, gset, other), False)
        part, a, b = gset_difference(group, gset, other)
        self.assertEqual((len(fixed(images_of(group, gset), part)), len(fixed(images_of(group, other), part))), (a, b))
        self.assertNotEqual(a, b)

    def test_other_sizes(self):
        self.assertIsNone(same_gsets(FLIP, ((0, 1),), ((0, 1, 2),)))
        self.assertIsNone(same_gsets(FLIP, ((0, 1, 2),), ((0, 1),)))
        self.assertIn(gset_difference(FLIP, ((1, 0),), ((0, 2, 1),))[1:], [(0, 1), (2, 3)])
        self.assertIs(same_characters(FLIP, ((0, 1),), ((0, 1, 2),)), False)

    def test_errors(self):
        good = ((0, 2, 1),)
        for function in PAIRED:
            for value, index in WRONG_GROUPS:
                expect(self, BadGroup, {"index": index}, function, value, None, None)
            for value in NO_GSETS + (((1, 2, 0),), ((0, 2, 1), (0, 2, 1))):
                expect(self, BadGset, {}, function, FLIP, value, good)
                expect(self, BadGset, {}, function, FLIP, good, value)
                expect(self, TooMany, {"most": 2000}, function, symmetric(7), value, value)
            for value in ((), None, ((0,),)):
                expect(self, BadGset, {}, function, (3, ()), value, value)


if __name__ == "__main__":
    unittest.main()
