import itertools
import math
import unittest

from brute import MATHIEU_11, MATHIEU_12, ODD_VALUES, SMALL, WIDER, cyc, expect, members, ring, run_steps, symmetric
from small import GREAT, LINEAR_168
from stronggens.chains import order
from stronggens.errors import BadGroup, BadNumber, BadSet
from stronggens.pointsets import least_image, least_sets, orbit_of_set, set_counts, set_mover, set_stabilizer
from stronggens.programs import run_program
from test_primes import WRONG_GROUPS

NO_SETS = tuple(value for value in ODD_VALUES if value != (1, 2)) + (
    (4,), (-1,), (0, 0), (1, 0), (0, 2, 1), (True,), (0, True), [0], {0}, range(2), "01", (0, "1"), ((0,),), (0, [1]), (None, 1),
)
# Groups of degree 7 to 12 with thousands and millions of elements.
WREATH = (12, (cyc(12, (0, 1, 2, 3)), cyc(12, (0, 1)), cyc(12, (0, 4, 8), (1, 5, 9), (2, 6, 10), (3, 7, 11)), cyc(12, (0, 4), (1, 5), (2, 6), (3, 7))))
PAIRS = (10, (cyc(10, (0, 1)), cyc(10, (0, 2, 4, 6, 8), (1, 3, 5, 7, 9)), cyc(10, (0, 2), (1, 3))))
LARGE = (symmetric(7), symmetric(9), symmetric(12), MATHIEU_11, MATHIEU_12, WREATH, PAIRS, (9, symmetric(9)[1][:1] + (cyc(9, (0, 1, 2)),)))


def image(points, p):
    return tuple(sorted(p[x] for x in points))


def all_sets(degree):
    return [points for size in range(degree + 1) for points in itertools.combinations(range(degree), size)]


def plain_orbit(group, points):
    """All images, by the generators."""
    found = {points}
    queue = [points]
    for told in queue:
        for p in group[1]:
            if image(told, p) not in found:
                found.add(image(told, p))
                queue.append(image(told, p))
    return sorted(found)


class TestSets(unittest.TestCase):
    def test_by_all_elements(self):
        for group in SMALL:
            rows = members(group)
            sets = all_sets(group[0])
            for points in sets:
                images = sorted({image(points, p) for p in rows})
                self.assertEqual(orbit_of_set(group, points), tuple(images))
                self.assertEqual(least_image(group, points), images[0])
                part = set_stabilizer(group, points)
                self.assertEqual(part[0], group[0])
                self.assertEqual(members(part), [p for p in rows if image(points, p) == points])
                for other in sets[::3]:
                    self.check_mover(group, points, other, images)

    def check_mover(self, group, points, other, images):
        program = set_mover(group, points, other)
        if other in images:
            self.assertEqual(image(points, run_program(group, program)), other)
            self.assertEqual(run_steps(group[0], group[1], program), run_program(group, program))
        else:
            self.assertIsNone(program)

    def test_wider_groups(self):
        for group in WIDER + GREAT + (LINEAR_168,):
            rows = members(group)
            sets = all_sets(group[0])
            for points in sets[:: 1 + len(sets) // 15] + sets[-2:]:
                images = sorted({image(points, p) for p in rows})
                self.assertEqual(orbit_of_set(group, points), tuple(images))
                self.assertEqual(least_image(group, points), images[0])
                self.assertEqual(members(set_stabilizer(group, points)), [p for p in rows if image(points, p) == points])
                for other in (images[0], images[-1], images[len(images) // 2], sets[len(sets) // 3]):
                    self.check_mover(group, points, other, images)

    def test_great_groups(self):
        for group in LARGE:
            degree = group[0]
            for points in ((), (0,), (0, 1), (1, 4, 5), (0, 2, 3, 6), (1, 2, 3, 4, 5), (0, 2, 3, 4, 5, 6), tuple(range(1, degree)), tuple(range(degree))):
                images = plain_orbit(group, points)
                self.assertEqual(orbit_of_set(group, points), tuple(images))
                self.assertEqual(least_image(group, points), images[0])
                part = set_stabilizer(group, points)
                self.assertTrue(all(image(points, p) == points for p in part[1]))
                self.assertLessEqual(len(part[1]), 12)
                self.assertEqual(order(part) * len(images), order(group))
                self.assertEqual(order((degree, group[1] + part[1][:12 - len(group[1])])), order(group))
                for other in (images[0], images[-1], images[len(images) // 2], (0, 3)):
                    self.check_mover(group, points, other, images)

    def test_no_and_all_points(self):
        for group in SMALL + LARGE:
            every = tuple(range(group[0]))
            for points in ((), every):
                self.assertEqual(orbit_of_set(group, points), (points,))
                self.assertEqual(least_image(group, points), points)
                self.assertEqual(order(set_stabilizer(group, points)), order(group))
                self.assertEqual(run_program(group, set_mover(group, points, points)), tuple(range(group[0])))
            self.assertIsNone(set_mover(group, (), every))

    def test_one_turn_goes_far(self):
        group = (12, (ring(12),))
        program = set_mover(group, (0, 1), (10, 11))
        self.assertEqual(image((0, 1), run_program(group, program)), (10, 11))
        self.assertEqual(least_image(group, (3, 7)), (0, 4))

    def test_errors(self):
        for value, index in WRONG_GROUPS:
            for function in (set_stabilizer, least_image, orbit_of_set):
                expect(self, BadGroup, {"index": index}, function, value, None)
            expect(self, BadGroup, {"index": index}, set_mover, value, None, None)
        square = symmetric(4)
        for value in NO_SETS:
            for function in (set_stabilizer, least_image, orbit_of_set):
                expect(self, BadSet, {}, function, square, value)
            expect(self, BadSet, {}, set_mover, square, value, (0,))
            expect(self, BadSet, {}, set_mover, square, (0,), value)
            expect(self, BadSet, {}, set_mover, square, value, value)


class TestLeastSets(unittest.TestCase):
    def test_by_all_elements(self):
        for group in SMALL:
            rows = members(group)
            counts = []
            for size in range(group[0] + 1):
                sets = itertools.combinations(range(group[0]), size)
                expected = tuple(points for points in sets if points == min(image(points, p) for p in rows))
                self.assertEqual(least_sets(group, size), expected)
                counts.append(len(expected))
            self.assertEqual(set_counts(group), tuple(counts))

    def test_greater_groups(self):
        for group in WIDER + LARGE:
            for size in (0, 1, 2, 5, group[0]):
                sets = list(itertools.combinations(range(group[0]), size))
                found = []
                while sets:
                    found.append(sets[0])
                    gone = set(plain_orbit(group, sets[0]))
                    sets = [points for points in sets if points not in gone]
                self.assertEqual(least_sets(group, size), tuple(found))

    def test_known_numbers(self):
        self.assertEqual(set_counts((12, ())), tuple(math.comb(12, size) for size in range(13)))
        self.assertEqual(set_counts(symmetric(12)), (1,) * 13)
        self.assertEqual(set_counts(MATHIEU_12), (1, 1, 1, 1, 1, 1, 2, 1, 1, 1, 1, 1, 1))
        self.assertEqual(set_counts((4, (ring(4),))), (1, 1, 2, 1, 1))
        self.assertEqual(set_counts((1, ())), (1, 1))
        for group in WIDER + LARGE:
            told = set_counts(group)
            self.assertEqual(told, told[::-1])
            for k in range(group[0]):
                if 2 * k + 1 <= group[0]:
                    self.assertLessEqual(told[k], told[k + 1])

    def test_taking_the_greatest_point_out(self):
        for group in SMALL + WIDER:
            for size in range(1, group[0] + 1):
                fewer = least_sets(group, size - 1)
                self.assertTrue(all(points[:-1] in fewer for points in least_sets(group, size)))

    def test_errors(self):
        for value, index in WRONG_GROUPS:
            expect(self, BadGroup, {"index": index}, least_sets, value, None)
            expect(self, BadGroup, {"index": index}, set_counts, value)
        for value in ODD_VALUES + (-1, 5, 12, "2", (2,)):
            expect(self, BadNumber, {}, least_sets, symmetric(4), value)
        expect(self, BadNumber, {}, least_sets, symmetric(12), 13)
        self.assertEqual(least_sets(symmetric(4), 4), ((0, 1, 2, 3),))


if __name__ == "__main__":
    unittest.main()
