import itertools
import unittest

from brute import ODD_VALUES, SQUARE, closure, cyc, expect, members, one, ring, symmetric, times
from small import (
    DICYCLIC_12, GREAT, LINEAR_SL3, QUATERNIONS, TOO_GREAT, TWENTY_ONE, UP_TO_24, conj, order_of,
)
from stronggens.automorphisms import (
    automorphisms, difference, inner_automorphisms, isomorphism, shows_isomorphism,
)
from stronggens.errors import BadGroup, TooMany
from test_homs import mapping_of
from test_primes import WRONG_GROUPS

THREE = (3, ((1, 2, 0), (1, 0, 2)))
FOUR = (4, ((1, 0, 3, 2), (2, 3, 0, 1)))
UP_TO_12 = tuple(group for group in UP_TO_24 if len(members(group)) <= 12)
PAIR_FUNCTIONS = (isomorphism, difference)


def is_isomorphism(source, target, images):
    table = mapping_of(source, target, images)
    return table is not None and sorted(table.values()) == members(target)


def by_tuples(source, target):
    """All tuples of images by isomorphisms; each image has the order of its generator."""
    rows = members(target)
    if len(members(source)) != len(rows):
        return []
    choices = [[q for q in rows if order_of(q) == order_of(p)] for p in source[1]]
    return [images for images in itertools.product(*choices) if is_isomorphism(source, target, images)]


def classes_of(group):
    rows = members(group)
    return {frozenset(conj(p, g) for g in rows) for p in rows}


class TestIsomorphisms(unittest.TestCase):
    def test_against_all_tuples(self):
        for source in UP_TO_12:
            for target in UP_TO_12:
                found = by_tuples(source, target)
                told = isomorphism(source, target)
                if found:
                    self.assertIn(told, found)
                    self.assertIs(shows_isomorphism(source, target, told), True)
                    self.assertIsNone(difference(source, target))
                else:
                    self.assertIsNone(told)
                    self.assertIsNotNone(difference(source, target))

    def test_other_generators(self):
        for group in UP_TO_24:
            rows = members(group)
            for seed in range(3):
                some = tuple(rows[(seed * 5 + k * k) % len(rows)] for k in range(6))
                other = (group[0], group[1][::-1] + some)
                told = isomorphism(other, group)
                self.assertTrue(is_isomorphism(other, group, told))
                self.assertTrue(is_isomorphism(group, other, isomorphism(group, other)))
                self.assertIs(shows_isomorphism(other, group, told), True)

    def test_other_degrees(self):
        cyclic = (5, (cyc(5, (0, 1, 2), (3, 4)),))
        self.assertIsNotNone(isomorphism(cyclic, (6, (ring(6),))))
        self.assertIsNone(isomorphism(THREE, cyclic))
        self.assertIsNotNone(isomorphism((6, (cyc(6, (0, 1, 2), (3, 4, 5)), cyc(6, (0, 3), (1, 5), (2, 4)))), THREE))
        self.assertEqual(isomorphism((1, ()), (7, ())), ())
        self.assertEqual(isomorphism((1, ((0,),)), (3, ())), (one(3),))

    def test_shows_all_tuples(self):
        for source, target in ((THREE, THREE), (FOUR, FOUR), ((4, (ring(4),)), (4, (ring(4),))), (THREE, (5, (cyc(5, (0, 1, 2), (3, 4)),))),
                               (SQUARE, QUATERNIONS), ((3, (ring(3), ring(3))), (3, (ring(3),))), ((2, ((1, 0),)), FOUR), (FOUR, (2, ((1, 0),)))):
            for images in itertools.product(members(target), repeat=len(source[1])):
                self.assertIs(shows_isomorphism(source, target, images), is_isomorphism(source, target, images))

    def test_bent_values(self):
        good = THREE[1]
        self.assertIs(shows_isomorphism(THREE, THREE, good), True)
        bent = (list(good), good[:1], good + good[:1], good[::-1], (good[0], list(good[1])), (good[0], None), (good[0], (True, False, 2)),
                (good[0], (1, 0)), (good[0], (1, 0, 2, 3)), (good[0], (0, 0, 0)), (good[0], []), {}, (good[0], {}), (good[0], (1, 0, [2])))
        for value in bent + ODD_VALUES:
            self.assertIs(shows_isomorphism(THREE, THREE, value), False, value)
        self.assertIs(shows_isomorphism((1, ()), (4, ()), ()), True)
        self.assertIs(shows_isomorphism((1, ()), (4, ()), (one(4),)), False)
        self.assertIs(shows_isomorphism((1, ()), THREE, ()), False)


class TestDifference(unittest.TestCase):
    def test_from_the_definition(self):
        for source in UP_TO_24:
            for target in UP_TO_24:
                self.check(source, target)

    def check(self, source, target):
        told = difference(source, target)
        some, others = members(source), members(target)
        if len(some) != len(others):
            self.assertEqual(told, ("order", len(some), len(others)))
            return
        for n in range(1, 25):
            a, b = (sum(order_of(p) == n for p in rows) for rows in (some, others))
            if a != b:
                self.assertEqual(told, ("elements", n, a, b))
                return
        a, b = len(classes_of(source)), len(classes_of(target))
        if a != b:
            self.assertEqual(told, ("classes", a, b))
            return
        a, b = (len({times(p, p) for p in rows}) for rows in (some, others))
        if a != b:
            self.assertEqual(told, ("squares", a, b))
            return
        self.assertEqual(told, None if isomorphism(source, target) is not None else ("map",))

    def test_each_kind(self):
        # Groups of 16 elements, pairs of them with equally many elements of each order; there may be no pair for the last kind.
        modular = (8, (ring(8), cyc(8, (1, 5), (3, 7))))
        ring_by_two = (10, (cyc(10, range(8)), cyc(10, (8, 9))))
        rings = (8, (cyc(8, (0, 1, 2, 3)), cyc(8, (1, 3), (4, 5, 6, 7))))
        quaternions = (10, tuple(p + (8, 9) for p in QUATERNIONS[1]) + (cyc(10, (8, 9)),))
        pairs = [
            ((4, (ring(4),)), (3, ()), ("order", 4, 1)), ((4, (ring(4),)), FOUR, ("elements", 2, 1, 3)),
            (modular, ring_by_two, ("classes", 10, 16)), (ring_by_two, modular, ("classes", 16, 10)),
            (rings, quaternions, ("squares", 3, 2)), (quaternions, rings, ("squares", 2, 3)),
        ]
        for source, target, told in pairs:
            self.assertEqual(difference(source, target), told)
            self.check(source, target)
        self.assertIsNone(difference(QUATERNIONS, (8, QUATERNIONS[1][::-1])))

    def sixteen(self):
        """Groups of 16 elements as subgroups of products of rings and squares, one for each kind that is told apart."""
        mothers = [(12, (cyc(12, (0, 1, 2, 3)), cyc(12, (0, 2)), cyc(12, (4, 5, 6, 7)), cyc(12, (4, 6)), cyc(12, (8, 9, 10, 11)), cyc(12, (8, 10)))),
                   (12, (cyc(12, (0, 1, 2, 3), (4, 5, 6, 7)), cyc(12, (0, 4, 2, 6), (1, 7, 3, 5)), cyc(12, (8, 9, 10, 11)), cyc(12, (8, 10)))),
                   (10, (cyc(10, range(8)), cyc(10, (1, 5), (3, 7)), cyc(10, (8, 9)), cyc(10, (1, 7), (2, 6), (3, 5))))]
        found = {}
        for mother in mothers:
            rows = closure(*mother)
            for seed in range(700):
                some = tuple(rows[(seed * seed * 13 + k * k * (seed + 7) * 3 + 11 * k) % len(rows)] for k in range(3))
                if len(closure(mother[0], some)) == 16:
                    group = (mother[0], some)
                    orders = tuple(sorted(order_of(p) for p in members(group)))
                    squares = len({times(p, p) for p in members(group)})
                    found.setdefault((orders, len(classes_of(group)), squares), []).append(group)
        return [kind[:6] for kind in found.values()]

    def test_groups_of_sixteen(self):
        kinds = self.sixteen()
        self.assertGreater(len(kinds), 7)
        rows = [group for kind in kinds for group in kind[:2]]
        seen = set()
        for source in rows:
            for target in rows:
                self.check(source, target)
                told = difference(source, target)
                seen.add(told and told[0])
        self.assertTrue({"elements", None} <= seen, seen)


class TestAutomorphisms(unittest.TestCase):
    def test_against_all_tuples(self):
        for group in UP_TO_12:
            self.assertEqual(automorphisms(group), by_tuples(group, group))

    def test_numbers(self):
        cases = ((SQUARE, 8), (QUATERNIONS, 24), (symmetric(4), 24), (FOUR, 6), ((8, (ring(8),)), 4), (TWENTY_ONE, 42), (LINEAR_SL3, 24),
                 (DICYCLIC_12, 12), ((7, (ring(7),)), 6), ((1, ()), 1), ((6, tuple(cyc(6, (2 * k, 2 * k + 1)) for k in range(3))), 168),
                 ((9, tuple(cyc(9, (2 * k, 2 * k + 1)) for k in range(3)) + (cyc(9, (6, 7, 8)),)), 336))
        for group, number in cases:
            told = automorphisms(group)
            self.assertEqual((len(told), told), (number, sorted(set(told))))
            self.assertTrue(all(is_isomorphism(group, group, images) for images in told[:10]))

    def test_many_generators(self):
        rows = members(symmetric(4))
        group = (4, tuple(rows[(5 * k) % 24] for k in range(12)))
        self.assertEqual(len(automorphisms(group)), 24)
        self.assertEqual(automorphisms(group), inner_automorphisms(group))
        self.assertEqual(automorphisms((2, ((0, 1), (1, 0), (1, 0)))), [((0, 1), (1, 0), (1, 0))])
        self.assertEqual(automorphisms((3, (one(3),))), [(one(3),)])
        self.assertEqual(automorphisms((3, ())), [()])

    def test_inner_ones(self):
        for group in UP_TO_24:
            rows = members(group)
            told = inner_automorphisms(group)
            self.assertEqual(told, sorted({tuple(conj(p, g) for p in group[1]) for g in rows}))
            center = [p for p in rows if all(times(p, q) == times(q, p) for q in rows)]
            self.assertEqual(len(told) * len(center), len(rows))
            self.assertTrue(all(is_isomorphism(group, group, images) for images in told))

    def test_too_many(self):
        pairs = (8, tuple(cyc(8, (2 * k, 2 * k + 1)) for k in range(4)))
        expect(self, TooMany, {"most": 2000}, automorphisms, pairs)
        self.assertEqual(len(inner_automorphisms(pairs)), 1)


class TestErrors(unittest.TestCase):
    def test_groups_and_too_many(self):
        for value, index in WRONG_GROUPS:
            for function in (automorphisms, inner_automorphisms):
                expect(self, BadGroup, {"index": index}, function, value)
            for function in PAIR_FUNCTIONS:
                expect(self, BadGroup, {"index": index}, function, value, None)
                expect(self, BadGroup, {"index": index}, function, TOO_GREAT[0], value)
            expect(self, BadGroup, {"index": index}, shows_isomorphism, value, None, None)
            expect(self, BadGroup, {"index": index}, shows_isomorphism, THREE, value, None)
        for group in TOO_GREAT + GREAT + ((10, (ring(10), cyc(10, (0, 5)))),):
            for function in (automorphisms, inner_automorphisms):
                expect(self, TooMany, {"most": 24}, function, group)
            for function in PAIR_FUNCTIONS:
                expect(self, TooMany, {"most": 24}, function, THREE, group)
                expect(self, TooMany, {"most": 24}, function, group, THREE)
                expect(self, TooMany, {"most": 24}, function, group, group)
            expect(self, TooMany, {"most": 24}, shows_isomorphism, THREE, group, None)
            expect(self, TooMany, {"most": 24}, shows_isomorphism, group, THREE, None)


if __name__ == "__main__":
    unittest.main()
