import itertools
import unittest

from brute import (
    MATHIEU_11, MATHIEU_12, ODD_VALUES, SMALL, SQUARE, WIDER, closure, cyc, expect, least_words, members, one, ring,
    symmetric, times,
)
from stronggens.errors import BadGroup, BadNumber, BadPoint, BadPoints, TooMany
from stronggens.orbits import (
    is_transitive, mirror, orbit, orbits, pair_orbits, path, point_stabilizer, rank, self_paired, suborbits,
    transitivity, tuple_path,
)
from stronggens.programs import word_value

FIVE = (5, (ring(5), cyc(5, (0, 1, 2))))
NO_POINTS = (None, True, False, -1, 4, 10 ** 30, "0", (0,), [0], {})


def at_point(point, p):
    return p[point]


def at_tuple(points, p):
    return tuple(p[x] for x in points)


def orbits_of_pairs(group):
    degree = group[0]
    found = {tuple(sorted({(p[a], p[b]) for p in members(group)})) for a in range(degree) for b in range(degree)}
    return sorted(found)


class TestOrbits(unittest.TestCase):
    def test_against_all_members(self):
        for group in SMALL + WIDER:
            rows = members(group)
            all_of_them = []
            for point in range(group[0]):
                expected = tuple(sorted({p[point] for p in rows}))
                self.assertEqual(orbit(group, point), expected)
                all_of_them.append(expected)
            self.assertEqual(orbits(group), sorted(set(all_of_them)))
            self.assertIs(is_transitive(group), len(set(all_of_them)) == 1)

    def test_lists_are_new(self):
        told = orbits(SQUARE)
        told.append(None)
        self.assertEqual(orbits(SQUARE), [(0, 1, 2, 3)])
        self.assertIs(type(told[0]), tuple)

    def test_paths(self):
        for group in SMALL + WIDER[:3]:
            for point in range(group[0]):
                words = least_words(group[1], point, at_point)
                for other in range(group[0]):
                    self.assertEqual(path(group, point, other), words.get(other))

    def test_order_of_letters(self):
        three = (4, (cyc(4, (0, 1, 2)), cyc(4, (0, 3, 1)), cyc(4, (0, 2))))
        self.assertEqual([path(three, 0, 1), path(three, 0, 2), path(three, 0, 3)], [(1,), (-1,), (2,)])
        self.assertEqual(path((3, (ring(3),)), 1, 1), ())
        self.assertEqual(path((12, (ring(12),)), 0, 6), (1,) * 6)
        self.assertEqual(path((12, (ring(12),)), 0, 7), (-1,) * 5)
        self.assertIsNone(path((3, ()), 0, 1))

    def test_wrong_points(self):
        for value in NO_POINTS:
            for function in (orbit, point_stabilizer, suborbits):
                expect(self, BadPoint, {}, function, SQUARE, value)
            expect(self, BadPoint, {}, path, SQUARE, value, 0)
            expect(self, BadPoint, {}, path, SQUARE, 0, value)


class TestTuplePath(unittest.TestCase):
    def test_against_all_words(self):
        for group in SMALL[:20]:
            for size in range(min(group[0], 3) + 1):
                rows = list(itertools.permutations(range(group[0]), size))
                for points in rows[::3]:
                    words = least_words(group[1], points, at_tuple)
                    for other in rows:
                        self.assertEqual(tuple_path(group, points, other), words.get(other))

    def test_values(self):
        self.assertEqual(tuple_path(SQUARE, (), ()), ())
        self.assertEqual(tuple_path((1, ()), (0,), (0,)), ())
        self.assertIsNone(tuple_path((2, ()), (0, 1), (1, 0)))
        word = tuple_path(MATHIEU_11, (0, 1, 2), (10, 4, 7))
        p = word_value(MATHIEU_11, word)
        self.assertEqual((p[0], p[1], p[2]), (10, 4, 7))

    def test_long_words(self):
        slow = (12, (cyc(12, range(7)), cyc(12, range(7, 12))))
        word = tuple_path(slow, (0, 7), (3, 9))
        self.assertEqual(word, (1, 1, 1, 2, 2))
        turns = (12, (cyc(12, (0, 1, 2, 3, 4), (5, 6, 7, 8), (9, 10, 11)),))
        self.assertEqual(tuple_path(turns, (0, 5, 9), (0, 7, 9)), (1,) * 30)
        # Two reflections of a ring of 5, of 4 and of 3 points: their words alternate.
        flips = (12, (cyc(12, (1, 4), (2, 3), (6, 8), (10, 11)), cyc(12, (0, 1), (2, 4), (5, 6), (7, 8), (9, 10))))
        start = (0, 1, 5, 6, 9, 10)
        words = least_words(flips[1], start, at_tuple)
        self.assertEqual([len(words), max(len(word) for word in words.values())], [120, 60])
        for other, word in words.items():
            self.assertEqual(tuple_path(flips, start, other), word)

    def test_too_many(self):
        twelve = symmetric(12)
        for points in ((0, 1, 2, 3), tuple(range(12))):
            expect(self, TooMany, {"most": 2000}, tuple_path, twelve, points, points)
        self.assertEqual(len(tuple_path(twelve, (0, 1, 2), (2, 1, 0))) > 0, True)
        seven = symmetric(7)
        expect(self, TooMany, {"most": 2000}, tuple_path, seven, (0, 1, 2, 3, 4), (0, 1, 2, 3, 4))
        self.assertEqual(tuple_path(seven, (0, 1, 2, 3), (0, 1, 2, 3)), ())
        expect(self, BadPoints, {}, tuple_path, twelve, tuple(range(12)), (0,))

    def test_wrong_tuples(self):
        for value in (None, True, 0, "01", [0, 1], {}, (0, 0), (0, 4), (-1, 0), (0, True), (None, 1), ((0,), 1), ("0", 1),
                      (0,), (0, 1, 2), (), (0, [1])):
            expect(self, BadPoints, {}, tuple_path, SQUARE, (0, 1), value)
            if value not in ((0,), (0, 1, 2), ()):
                expect(self, BadPoints, {}, tuple_path, SQUARE, value, (0, 1))
                expect(self, BadPoints, {}, tuple_path, SQUARE, value, None)
        expect(self, BadPoints, {}, tuple_path, SQUARE, (0, 1, 2, 3, 0), (0, 1, 2, 3, 0))


class TestTransitivity(unittest.TestCase):
    def test_against_all_members(self):
        for group in SMALL + WIDER:
            degree, rows = group[0], members(group)
            best = 0
            for size in range(1, degree + 1):
                if len({p[:size] for p in rows}) != len(list(itertools.permutations(range(degree), size))):
                    break
                best = size
            self.assertEqual(transitivity(group), best)

    def test_known_groups(self):
        self.assertEqual([transitivity((1, ())), transitivity((2, ())), transitivity(symmetric(12))], [1, 0, 12])
        self.assertEqual([transitivity(MATHIEU_11), transitivity(MATHIEU_12)], [4, 5])
        alternating = (12, tuple(cyc(12, (0, 1, k)) for k in range(2, 12)))
        self.assertEqual([transitivity(alternating), transitivity((12, (ring(12),)))], [10, 1])


class TestStabilizers(unittest.TestCase):
    def test_members_that_fix_the_point(self):
        for group in SMALL + WIDER:
            for point in range(group[0]):
                degree, generators = point_stabilizer(group, point)
                self.assertEqual(degree, group[0])
                self.assertTrue(type(generators) is tuple and len(generators) <= 12)
                expected = [p for p in members(group) if p[point] == point]
                self.assertEqual(closure(degree, generators), expected)
                rows = sorted({tuple(sorted({p[x] for p in expected})) for x in range(degree)})
                self.assertEqual(suborbits(group, point), rows)

    def test_great_groups(self):
        part = point_stabilizer(symmetric(12), 5)
        self.assertTrue(all(p[5] == 5 for p in part[1]))
        self.assertEqual(transitivity((12, part[1])), 0)
        self.assertEqual(suborbits(symmetric(12), 5), [(0, 1, 2, 3, 4, 6, 7, 8, 9, 10, 11), (5,)])
        # In the group of degree 12 that is sharply transitive on 5 points, 5 fixed points leave the identity.
        part = MATHIEU_12
        for point in (3, 1, 7, 10):
            part = point_stabilizer(part, point)
        self.assertEqual(len(members(part)), 8)
        self.assertEqual(members(point_stabilizer(part, 0)), [one(12)])


class TestPairs(unittest.TestCase):
    def test_against_all_members(self):
        for group in SMALL + WIDER:
            rows = orbits_of_pairs(group)
            self.assertEqual(pair_orbits(group), rows)
            self.assertEqual(rank(group), len(rows))
            mirrors = []
            for number, row in enumerate(rows):
                back = tuple(sorted((b, a) for a, b in row))
                self.assertEqual(rows[mirror(group, number)], back)
                mirrors.append(mirror(group, number) == number)
            self.assertEqual(self_paired(group), sum(mirrors))

    def test_edges(self):
        self.assertEqual([pair_orbits((1, ())), rank((1, ())), mirror((1, ()), 0), self_paired((1, ()))],
                         [[((0, 0),)], 1, 0, 1])
        self.assertEqual([rank((12, ())), self_paired((12, ())), rank(symmetric(12))], [144, 12, 2])

    def test_wrong_numbers(self):
        for value in (None, True, False, -1, 3, 10 ** 30, "0", (0,), [0], {}):
            expect(self, BadNumber, {}, mirror, SQUARE, value)


class TestOrderOfErrors(unittest.TestCase):
    def test_the_group_comes_first(self):
        for value in ODD_VALUES:
            for function in (orbits, is_transitive, transitivity, pair_orbits, rank, self_paired):
                expect(self, BadGroup, {"index": None}, function, value)
            for function in (orbit, point_stabilizer, suborbits, mirror):
                expect(self, BadGroup, {"index": None}, function, value, None)
            for function in (path, tuple_path):
                expect(self, BadGroup, {"index": None}, function, value, None, None)
        expect(self, BadGroup, {"index": 1}, orbits, (2, ((1, 0), (1, 1))))
        expect(self, BadGroup, {"index": 0}, path, (2, ((1, 2),)), 5, 5)

    def test_points_of_the_degree(self):
        self.assertEqual(times(ring(3), ring(3)), (2, 0, 1))
        expect(self, BadPoint, {}, orbit, FIVE, 5)
        self.assertEqual(orbit(FIVE, 4), (0, 1, 2, 3, 4))


if __name__ == "__main__":
    unittest.main()
