import unittest

from brute import ODD_VALUES, SQUARE, closure, cyc, expect, members, one, ring, symmetric, times
from small import (
    ALTERNATING_5, GREAT, LINEAR_168, QUATERNIONS, THIRTY, TOO_GREAT, UP_TO_24, UP_TO_60, all_subgroups, as_group, is_closed,
    is_normal_in, normal_ones,
)
from stronggens.errors import BadGroup, BadPermutation, NotNormal, NotSubgroup, TooMany
from stronggens.series import (
    composition, composition_through, factor_orders, is_product_group, product_set, shows_composition, split,
)

THREE = (3, ((1, 2, 0), (1, 0, 2)))
PAIR_FUNCTIONS = (product_set, is_product_group)


def is_series(group, value):
    """Whether a tuple of element lists is a composition series, straight from the definition."""
    if value[0] != (one(group[0]),) or list(value[-1]) != members(group):
        return False
    for part, above in zip(value, value[1:]):
        if not set(part) < set(above) or not is_normal_in(part, above):
            return False
        between = [other for other in all_subgroups(as_group(above)) if set(part) < set(other) < set(above)]
        if any(is_normal_in(other, above) for other in between):
            return False
    return True


class TestProducts(unittest.TestCase):
    def test_all_pairs_of_subgroups(self):
        for group in UP_TO_24:
            parts = all_subgroups(group)
            for k, part in enumerate(parts):
                for other in parts[k % 3::3]:
                    self.check(group, part, other)

    def check(self, group, part, other):
        one_group, other_group = as_group(part), as_group(other)
        rows = sorted({times(h, k) for h in part for k in other})
        self.assertEqual(product_set(group, one_group, other_group), tuple(rows))
        self.assertIs(is_product_group(group, one_group, other_group), is_closed(rows))
        for p in members(group)[::3]:
            told = split(group, one_group, other_group, p)
            if p in rows:
                self.assertTrue(type(told) is tuple and told[0] in part and told[1] in other)
                self.assertEqual(times(told[0], told[1]), p)
            else:
                self.assertIsNone(told)

    def test_greater_groups(self):
        six = symmetric(6)
        point = (6, (cyc(6, (0, 1, 2, 3, 4)), cyc(6, (0, 1))))
        other = (6, (cyc(6, (1, 2, 3, 4, 5)), cyc(6, (1, 2))))
        self.assertEqual(len(product_set(six, point, other)), 600)
        self.assertIs(is_product_group(six, point, other), False)
        self.assertIs(is_product_group(six, point, (6, (ring(6),))), True)
        self.assertEqual(len(product_set(six, point, (6, (ring(6),)))), 720)
        p = cyc(6, (0, 5), (1, 2))
        h, k = split(six, point, (6, (ring(6),)), p)
        self.assertEqual((times(h, k), h[5]), (p, 5))

    def test_any_permutation_is_split(self):
        self.assertIsNone(split(SQUARE, SQUARE, SQUARE, (1, 0, 2, 3)))
        self.assertIsNone(split((4, ()), (4, ()), (4, ()), (1, 0, 2, 3)))
        self.assertEqual(split((4, ()), (4, ()), (4, ()), one(4)), (one(4), one(4)))

    def test_errors(self):
        wrong = ((None, None), ((13, ()), None), ((3, [ring(3)]), None), ((3, (ring(3), (0, 1))), 1))
        flip, great = (3, ((1, 0, 2),)), TOO_GREAT[0]
        for value, index in wrong:
            for function in PAIR_FUNCTIONS:
                expect(self, BadGroup, {"index": index}, function, value, None, None)
                expect(self, BadGroup, {"index": index}, function, flip, value, None)
                expect(self, BadGroup, {"index": index}, function, flip, THREE, value)
            expect(self, BadGroup, {"index": index}, split, value, None, None, None)
            expect(self, BadGroup, {"index": index}, split, flip, value, None, None)
            expect(self, BadGroup, {"index": index}, split, flip, THREE, value, None)
        for value in ODD_VALUES + ((0, 1, 1), (0, 1, 2, 3), [0, 1, 2]):
            expect(self, BadPermutation, {}, split, flip, THREE, THREE, value)
        for part in (THREE, (3, (one(3), ring(3))), (2, ()), (4, ()), (4, ((1, 0, 2, 3),))):
            for function in PAIR_FUNCTIONS:
                expect(self, NotSubgroup, {}, function, flip, part, flip)
                expect(self, NotSubgroup, {}, function, flip, flip, part)
            expect(self, NotSubgroup, {}, split, flip, part, flip, one(3))
            expect(self, NotSubgroup, {}, split, flip, flip, part, one(3))
        for group in TOO_GREAT:
            small = (group[0], (cyc(group[0], (0, 1)),))
            for function in PAIR_FUNCTIONS:
                expect(self, TooMany, {"most": 2000}, function, group, small, small)
                expect(self, NotSubgroup, {}, function, (group[0], group[1][:1]), group, small)
            expect(self, TooMany, {"most": 2000}, split, group, small, group, one(group[0]))
            expect(self, BadPermutation, {}, split, group, small, (1, ()), None)
        expect(self, NotSubgroup, {}, product_set, great, (2, ()), great)


class TestComposition(unittest.TestCase):
    def test_known_groups(self):
        for group in UP_TO_60:
            told = composition(group)
            self.assertTrue(type(told) is tuple)
            self.assertTrue(is_series(group, told))
            self.assertIs(shows_composition(group, told), True)
            self.assertEqual(factor_orders(group), tuple(sorted(len(above) // len(part) for part, above in zip(told, told[1:]))))
        self.assertEqual(composition((4, ())), ((one(4),),))

    def test_factor_orders(self):
        for group, orders in ((symmetric(4), (2, 2, 2, 3)), (symmetric(5), (2, 60)), (LINEAR_168, (168,)), (ALTERNATING_5, (60,)),
                              (THIRTY, (2, 3, 5)), (QUATERNIONS, (2, 2, 2)), ((1, ()), ()), ((12, (ring(12),)), (2, 2, 3)),
                              (THREE, (2, 3)), ((7, ((1, 0, 2, 3, 4, 5, 6), (0, 1, 3, 4, 5, 6, 2), (0, 1, 3, 4, 2, 5, 6))), (2, 60))):
            self.assertEqual(factor_orders(group), orders)

    def test_through_each_normal_subgroup(self):
        for group in UP_TO_60:
            for part in normal_ones(group):
                told = composition_through(group, as_group(part))
                self.assertIn(part, told)
                self.assertTrue(is_series(group, told))
        normal = (5, ALTERNATING_5[1])
        self.assertEqual([len(part) for part in composition_through(symmetric(5), normal)], [1, 60, 120])
        self.assertEqual([len(part) for part in composition_through(symmetric(5), (5, ()))], [1, 60, 120])

    def test_shows_all_rows_of_subgroups(self):
        """All chains of subgroups of some groups, and whether they are composition series."""
        for group in (THREE, SQUARE, (6, (ring(6),)), (4, (cyc(4, (0, 1, 2)), cyc(4, (1, 2, 3)))), (2, ((1, 0),)), (1, ())):
            parts = all_subgroups(group)
            rows = [(part,) for part in parts]
            shown = 0
            while rows:
                for value in rows:
                    fits = is_series(group, value)
                    shown += fits
                    self.assertIs(shows_composition(group, value), fits)
                rows = [row + (part,) for row in rows if len(row) < 4 for part in parts if set(row[-1]) < set(part)]
            self.assertGreater(shown, 0)

    def test_bent_values(self):
        for group in (THREE, SQUARE, symmetric(4)):
            good = composition(group)
            bent = [good[1:], good[:-1], good[:1] + good[2:], good[::-1], list(good), good + good[-1:], good[:1] + good,
                    good[:-1] + (good[-1][::-1],), good[:-1] + (list(good[-1]),), good[:-1] + (good[-1][:-1],), (good[0] * 2,) + good[1:],
                    good[:-1] + (good[-1] + good[-1][-1:],), good[:1] + (good[1][1:],) + good[2:], ([one(group[0])],) + good[1:],
                    ((list(one(group[0])),),) + good[1:], ((),) + good, good[:1] + (None,) + good[1:], good[:1] + (good[1] + (None,),) + good[2:],
                    ((tuple(map(bool, range(2))) + one(group[0])[2:],),) + good[1:], good[:1] + (good[1] + ((0, 1),),) + good[2:],
                    good[:1] + (good[1] + ([],),) + good[2:]]
            for value in bent + list(ODD_VALUES):
                self.assertIs(shows_composition(group, value), False, value)
        rows = composition(symmetric(4))
        turns = tuple(closure(4, (cyc(4, (0, 1)), cyc(4, (2, 3)))))
        self.assertIs(shows_composition(symmetric(4), rows[:1] + (tuple(closure(4, (cyc(4, (0, 1)),))), turns) + rows[3:]), False)

    def test_errors(self):
        for value, index in ((None, None), ((13, ()), None), ((3, (ring(3), (0, 1))), 1)):
            for function in (composition, factor_orders):
                expect(self, BadGroup, {"index": index}, function, value)
            expect(self, BadGroup, {"index": index}, shows_composition, value, None)
            expect(self, BadGroup, {"index": index}, composition_through, value, None)
            expect(self, BadGroup, {"index": index}, composition_through, THREE, value)
        for part in ((2, ()), (4, ()), (4, (ring(4),))):
            expect(self, NotSubgroup, {}, composition_through, THREE, part)
        expect(self, NotSubgroup, {}, composition_through, (3, (ring(3),)), THREE)
        expect(self, NotNormal, {}, composition_through, THREE, (3, ((1, 0, 2),)))
        for group in TOO_GREAT + (GREAT[2], symmetric(6)):
            for function in (composition, factor_orders):
                expect(self, TooMany, {"most": 200}, function, group)
            expect(self, TooMany, {"most": 200}, shows_composition, group, None)
            expect(self, TooMany, {"most": 200}, composition_through, group, group)
            expect(self, NotNormal, {}, composition_through, group, (group[0], (cyc(group[0], (0, 1)),)))
            expect(self, NotSubgroup, {}, composition_through, group, (group[0] - 1, ()))
        self.assertEqual(len(composition(LINEAR_168)), 2)


if __name__ == "__main__":
    unittest.main()
