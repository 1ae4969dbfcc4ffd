import unittest

from brute import (
    MATHIEU_12, ODD_VALUES, SMALL, SQUARE, WIDER, closure, cyc, expect, members, one, ring, symmetric, times, turned,
)
from stronggens.chains import order
from stronggens.errors import BadGroup, BadPoint, BadTransversal
from stronggens.transversals import schreier_generators, shows_transversal, transversal


class TestTransversals(unittest.TestCase):
    def test_against_all_members(self):
        for group in SMALL + WIDER:
            rows = members(group)
            for point in range(group[0]):
                told = transversal(group, point)
                self.assertEqual([image for image, _ in told], sorted({p[point] for p in rows}))
                self.assertTrue(all(p in rows and p[point] == image for image, p in told))
                self.assertIs(shows_transversal(group, point, told), True)

    def test_any_such_is_shown(self):
        for group in (SQUARE, symmetric(4), (5, (cyc(5, (0, 1, 2)), cyc(5, (3, 4))))):
            rows = members(group)
            for point in range(group[0]):
                images = sorted({p[point] for p in rows})
                for seed in range(10):
                    pairs = []
                    for image in images:
                        fitting = [p for p in rows if p[point] == image]
                        pairs.append((image, fitting[(seed + image) % len(fitting)]))
                    self.assertIs(shows_transversal(group, point, tuple(pairs)), True)
                    self.check_generators(group, point, tuple(pairs))

    def check_generators(self, group, point, pairs):
        told = schreier_generators(group, point, pairs)
        table = dict(pairs)
        expected = {times(times(u, s), turned(table[s[image]])) for image, u in pairs for s in group[1]}
        self.assertEqual(told, tuple(sorted(expected)))
        self.assertEqual(closure(group[0], told), [p for p in members(group) if p[point] == point])

    def test_schreier_generators(self):
        for group in SMALL + WIDER:
            for point in range(group[0]):
                self.check_generators(group, point, transversal(group, point))
        self.assertEqual(schreier_generators((3, ()), 1, ((1, one(3)),)), ())
        self.assertEqual(schreier_generators((3, (ring(3),)), 1, transversal((3, (ring(3),)), 1)), (one(3),))

    def test_great_groups(self):
        for group in (MATHIEU_12, symmetric(12)):
            told = transversal(group, 7)
            self.assertEqual([p[7] for _, p in told], list(range(12)))
            self.assertIs(shows_transversal(group, 7, told), True)
            perms = schreier_generators(group, 7, told)
            self.assertTrue(all(p[7] == 7 for p in perms))
            self.assertEqual(order((12, perms[:12])) * 12 <= order(group), True)

    def test_bent_ones(self):
        turns = (4, (ring(4),))
        good = transversal(turns, 0)
        self.assertEqual(good, ((0, (0, 1, 2, 3)), (1, (1, 2, 3, 0)), (2, (2, 3, 0, 1)), (3, (3, 0, 1, 2))))
        bent = [
            None, True, 0, "", {}, (), list(good), dict(good), good[:3], good + good[3:], good[::-1], good[1:] + good[:1],
            ((0, (0, 3, 2, 1)),) + good[1:], ((0, (1, 2, 3, 0)),) + good[1:], good[:1] + ((True, good[1][1]),) + good[2:],
            good[:1] + ([1, good[1][1]],) + good[2:], good[:1] + ((1,),) + good[2:], good[:1] + ((1, good[1][1], 0),) + good[2:],
            good[:1] + ((1, list(good[1][1])),) + good[2:], good[:1] + ((1, (True, 2, 3, 0)),) + good[2:],
            good[:1] + ((1, (1, 2, 0)),) + good[2:], good[:1] + (None,) + good[2:], good[:1] + ((1, None),) + good[2:],
            good[:1] + ((2, good[2][1]),) + good[2:], good[:3] + ((4, good[3][1]),), good[:3] + ((None, good[3][1]),),
            good[:1] + (([1], good[1][1]),) + good[2:], good[:1] + ((1, cyc(4, (0, 1))),) + good[2:],
        ]
        for value in bent:
            self.assertIs(shows_transversal(turns, 0, value), False, value)
            expect(self, BadTransversal, {}, schreier_generators, turns, 0, value)
        self.assertIs(shows_transversal(SQUARE, 0, ((0, (0, 3, 2, 1)),) + good[1:]), True)
        self.assertIs(shows_transversal(turns, 1, good), False)
        for value in ODD_VALUES:
            self.assertIs(shows_transversal(turns, 0, value), False)


class TestErrors(unittest.TestCase):
    def test_wrong_points(self):
        for value in (None, True, False, -1, 4, "0", (0,), [0], {}, 10 ** 30):
            expect(self, BadPoint, {}, transversal, SQUARE, value)
            expect(self, BadPoint, {}, shows_transversal, SQUARE, value, ())
            expect(self, BadPoint, {}, schreier_generators, SQUARE, value, None)

    def test_the_group_comes_first(self):
        for value in ODD_VALUES:
            expect(self, BadGroup, {"index": None}, transversal, value, None)
            expect(self, BadGroup, {"index": None}, shows_transversal, value, None, None)
            expect(self, BadGroup, {"index": None}, schreier_generators, value, None, None)
        expect(self, BadGroup, {"index": 0}, transversal, (2, ((1, 2),)), 2)


if __name__ == "__main__":
    unittest.main()
