import itertools
import unittest

from brute import expect, members, one, ring, symmetric, times, turned
from gsets import NO_GSETS, beside, cosets_of, fixed, images_of, plain_coset_set, renamed, some_gsets
from small import GREAT, UP_TO_24, all_subgroups, as_group
from stronggens.errors import BadGroup, BadGset, NotSubgroup, TooMany
from stronggens.gmaps import gset_product, induced, map_count, maps_of, restricted
from stronggens.gsets import is_gset
from test_primes import WRONG_GROUPS

FLIP, THREE = (2, ((1, 0),)), symmetric(3)
ACTED = [group for group in UP_TO_24 if group[1]]
PAIRED = (gset_product, map_count, maps_of)


def plain_maps(one_set, other):
    many, size = len(one_set[0]), len(other[0])
    return [told for told in itertools.product(range(size), repeat=many)
            if all(told[p[x]] == q[told[x]] for p, q in zip(one_set, other) for x in range(many))]


class TestProducts(unittest.TestCase):
    def test_point_by_point(self):
        for group in ACTED:
            for one_set, other in itertools.product(some_gsets(group, 12), repeat=2):
                m = len(other[0])
                if len(one_set[0]) * m <= 60:
                    told = gset_product(group, one_set, other)
                    self.assertTrue(all(move[x * m + y] == p[x] * m + q[y] for move, p, q in zip(told, one_set, other)
                                        for x in range(len(p)) for y in range(m)))
                    self.assertEqual([sorted(move) for move in told], [list(range(len(one_set[0]) * m))] * len(told))

    def test_sixty_pairs(self):
        for a, b in ((6, 10), (60, 1), (1, 60), (7, 9), (61, 1), (2, 31), (30, 2), (60, 60)):
            if a <= 60:
                call = (gset_product, FLIP, (one(a),), (one(b),))
                if a * b > 60:
                    expect(self, TooMany, {"most": 60}, *call)
                else:
                    self.assertEqual(call[0](*call[1:]), (one(a * b),))


class TestMaps(unittest.TestCase):
    def test_all_tuples(self):
        many = 0
        for group in ACTED:
            for one_set, other in itertools.product(some_gsets(group, 12), repeat=2):
                if len(other[0]) ** len(one_set[0]) <= 5000:
                    expected = plain_maps(one_set, other)
                    self.assertEqual(map_count(group, one_set, other), len(expected))
                    self.assertEqual(maps_of(group, one_set, other), expected)
                    many += bool(expected)
        self.assertGreater(many, 40)

    def test_from_coset_sets(self):
        for group in ACTED:
            for part in all_subgroups(group)[::2]:
                cosets = plain_coset_set(group, part)
                for other in some_gsets(group, 24)[-3:]:
                    expected = fixed(images_of(group, other), part)
                    self.assertEqual(map_count(group, cosets, other), len(expected))
                    self.assertEqual([told[0] for told in maps_of(group, cosets, other)], list(expected))

    def test_many(self):
        still = (one(60),)
        self.assertEqual(map_count(FLIP, still, still), 60 ** 60)
        expect(self, TooMany, {"most": 2000}, maps_of, FLIP, still, still)
        self.assertEqual(len(maps_of(FLIP, (one(3),), (one(12),))), 1728)
        expect(self, TooMany, {"most": 2000}, maps_of, FLIP, (one(3),), (one(13),))
        wide = (tuple(x ^ 1 for x in range(10)) + tuple(range(10, 15)),)
        self.assertEqual(map_count(FLIP, ((1, 0, 3, 2, 4),), wide), 15 * 15 * 5)
        self.assertEqual(len(maps_of(FLIP, ((1, 0, 3, 2, 4),), wide)), 1125)
        wide = (tuple(x ^ 1 for x in range(12)) + tuple(range(12, 20)),)
        expect(self, TooMany, {"most": 2000}, maps_of, FLIP, ((1, 0, 3, 2, 4),), wide)
        self.assertEqual(map_count(FLIP, ((1, 0, 3, 2, 4),), wide), 20 * 20 * 8)
        exact = (tuple(x ^ 1 for x in range(10)) + tuple(range(10, 50)),)
        self.assertEqual(len(maps_of(FLIP, ((1, 0, 2),), exact)), 2000)
        exact = (tuple(x ^ 1 for x in range(10)) + tuple(range(10, 51)),)
        expect(self, TooMany, {"most": 2000}, maps_of, FLIP, ((1, 0, 2),), exact)
        exact = (tuple(x ^ 1 for x in range(10)) + tuple(range(10, 20)),)
        self.assertEqual(len(maps_of(FLIP, ((1, 0, 3, 2),), exact)), 400)
        forty = (tuple(x ^ 1 for x in range(50)),)
        expect(self, TooMany, {"most": 2000}, maps_of, FLIP, ((1, 0, 3, 2),), forty)
        self.assertEqual(len(maps_of(FLIP, ((1, 0, 3, 2),), (tuple(x ^ 1 for x in range(44)),))), 44 * 44)

    def test_none(self):
        # Many orbits that can go in many ways, and one that can go nowhere.
        moved = (tuple(x ^ 1 for x in range(60)),)
        first = ((0,) + tuple((x - 1 ^ 1) + 1 for x in range(1, 59)),)
        self.assertEqual(maps_of(FLIP, first, moved), [])
        last = (tuple(x ^ 1 for x in range(58)) + (58,),)
        self.assertEqual(map_count(FLIP, last, moved), 0)
        self.assertEqual(maps_of(FLIP, last, moved), [])
        found = maps_of(FLIP, ((0,),), ((0, 2, 1),))
        self.assertEqual(found, [(0,)])
        found.clear()
        self.assertEqual(len(maps_of(FLIP, ((0,),), ((0, 2, 1),))), 1)


class TestRestricted(unittest.TestCase):
    def test_images_of_the_generators(self):
        for group in ACTED:
            for gset in some_gsets(group)[-3:]:
                images = images_of(group, gset)
                for part in all_subgroups(group)[1:]:
                    for generators in (as_group(part)[1], part[::-1][:12]):
                        told = restricted(group, gset, (group[0], generators))
                        self.assertEqual(told, tuple(images[p] for p in generators))
                        self.assertTrue(is_gset((group[0], generators), told))

    def test_great(self):
        group = symmetric(6)
        gset = beside(((1, 0), (1, 0)), group[1])
        images = images_of(group, gset)
        part = (6, (ring(6), (0, 1, 2, 3, 5, 4), one(6)))
        self.assertEqual(restricted(group, gset, part), tuple(images[p] for p in part[1]))

    def test_errors(self):
        good = ((0, 2, 1),)
        for value, index in WRONG_GROUPS:
            expect(self, BadGroup, {"index": index}, restricted, value, None, None)
            expect(self, BadGroup, {"index": index}, restricted, FLIP, good, value)
        for value in NO_GSETS + (((1, 2, 0),),):
            expect(self, BadGset, {}, restricted, FLIP, value, None)
            expect(self, BadGset, {}, restricted, FLIP, value, (2, ()))
            expect(self, TooMany, {"most": 2000}, restricted, symmetric(7), value, None)
            expect(self, BadGset, {}, restricted, (3, ()), value, (3, ()))
        for part in ((2, ()), (3, ()), (1, ())):
            # The G-set would be that of the subgroup; this comes ahead of NotSubgroup.
            expect(self, BadGroup, {"index": None}, restricted, FLIP, good, part)
        expect(self, NotSubgroup, {}, restricted, FLIP, good, (3, (one(3),)))
        expect(self, NotSubgroup, {}, restricted, (3, (ring(3),)), (ring(3),), (3, ((1, 0, 2),)))
        self.assertEqual(restricted(FLIP, good, (2, (one(2),))), (one(3),))


class TestInduced(unittest.TestCase):
    def plain(self, group, part, gset):
        rows = cosets_of(group, part)
        place = {p: k for k, row in enumerate(rows) for p in row}
        images = images_of(as_group(part), gset)
        m = len(gset[0])
        moves = []
        for s in group[1]:
            move = []
            for row in rows:
                p = times(row[0], s)
                d = place[p]
                u = times(p, turned(rows[d][0]))
                move.extend(d * m + images[u][x] for x in range(m))
            moves.append(tuple(move))
        return tuple(moves)

    def test_point_by_point(self):
        many = 0
        for group in ACTED:
            for part in all_subgroups(group)[1:]:
                size = len(members(group)) // len(part)
                for gset in some_gsets(as_group(part), 12)[:6]:
                    if size * len(gset[0]) <= 60:
                        told = induced(group, as_group(part), gset)
                        self.assertEqual(told, self.plain(group, part, gset))
                        self.assertTrue(is_gset(group, told))
                        many += size > 1
                    else:
                        expect(self, TooMany, {"most": 60}, induced, group, as_group(part), gset)
        self.assertGreater(many, 100)

    def test_one_point_makes_the_coset_set(self):
        for group in ACTED:
            for part in all_subgroups(group)[1:]:
                told = induced(group, as_group(part), ((0,),) * len(as_group(part)[1]))
                self.assertEqual(told, plain_coset_set(group, part))

    def test_sixty(self):
        group, part = symmetric(5), (5, (ring(5), (0, 4, 3, 2, 1)))
        self.assertEqual(len(induced(group, part, part[1])[0]), 60)
        expect(self, TooMany, {"most": 60}, induced, group, part, beside(part[1], ((0,), (0,))))
        expect(self, TooMany, {"most": 60}, induced, group, (5, (one(5),)), ((0,),))
        group = symmetric(6)
        self.assertEqual(induced(group, group, renamed(group[1], 2)), renamed(group[1], 2))

    def test_errors(self):
        part, good = (3, ((1, 0, 2),)), ((1, 0),)
        for value, index in WRONG_GROUPS:
            expect(self, BadGroup, {"index": index}, induced, value, None, None)
            expect(self, BadGroup, {"index": index}, induced, THREE, value, None)
            expect(self, BadGroup, {"index": None}, induced, (3, ()), value, None)
            expect(self, TooMany, {"most": 2000}, induced, symmetric(7), value, None)
        expect(self, BadGroup, {"index": None}, induced, (3, ()), part, good)
        for wrong in ((2, ()), (2, ((1, 0),)), (4, ())):
            expect(self, NotSubgroup, {}, induced, THREE, wrong, None)
            expect(self, NotSubgroup, {}, induced, THREE, wrong, good)
        expect(self, NotSubgroup, {}, induced, (3, (ring(3),)), part, good)
        for value in NO_GSETS + (((1, 2, 0),),):
            expect(self, BadGset, {}, induced, THREE, part, value)
            expect(self, BadGset, {}, induced, THREE, (3, ()), value)
            expect(self, BadGset, {}, induced, symmetric(6), (6, ((1, 0, 2, 3, 4, 5),)), value)


class TestErrors(unittest.TestCase):
    def test_two_gsets(self):
        good = ((0, 2, 1),)
        for function in PAIRED:
            for value, index in WRONG_GROUPS:
                expect(self, BadGroup, {"index": index}, function, value, None, None)
            for value in NO_GSETS + (((1, 2, 0),), ((0, 2, 1), (0, 2, 1))):
                expect(self, BadGset, {}, function, FLIP, value, good)
                expect(self, BadGset, {}, function, FLIP, good, value)
                expect(self, TooMany, {"most": 2000}, function, symmetric(7), value, value)
            expect(self, BadGset, {}, function, FLIP, (one(60),), (one(61),))
        for value in ((), None, ((0,),)):
            expect(self, BadGroup, {"index": None}, gset_product, (3, ()), value, value)
            expect(self, BadGset, {}, map_count, (3, ()), value, value)
            expect(self, BadGset, {}, maps_of, (3, ()), value, value)

    def test_groups_of_a_hundred_and_more(self):
        for group in GREAT:
            self.assertEqual(map_count(group, group[1], group[1]) > 0, True)


if __name__ == "__main__":
    unittest.main()
