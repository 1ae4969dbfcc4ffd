import itertools
import unittest

from brute import MATHIEU_12, ODD_VALUES, SMALL, SQUARE, WIDER, all_perms, cyc, expect, members, run_steps, shuffled, symmetric
from great import EVEN_AND_SWAP, GREAT_ONES, alternating, moved
from small import LINEAR_168
from stronggens.backtrack import carry_tuple, meet
from stronggens.chains import order
from stronggens.errors import BadDegree, BadGroup, BadTuple
from stronggens.generators import same
from stronggens.programs import run_program
from stronggens.sifting import contains
from test_primes import WRONG_GROUPS

NO_TUPLES = tuple(value for value in ODD_VALUES if value not in ((0, 0), (1, 2), (0, 1, 2, 2))) + (
    [0, 1], (4,), (0, -1), (True,), (0, False), ((0,),), ("0",), "01", {0}, {0: 1}, (0, [1]), (0, None),
)


class TestMeet(unittest.TestCase):
    def check(self, group, other, rows, others):
        told = meet(group, other)
        self.assertEqual(told[0], group[0])
        self.assertLessEqual(len(told[1]), 12)
        self.assertEqual(members(told), sorted(set(rows) & set(others)))

    def test_all_pairs(self):
        for group, other in itertools.product(SMALL, repeat=2):
            if group[0] == other[0]:
                for seed in range(2):
                    wide = moved(other, shuffled(other[0], seed))
                    self.check(group, wide, members(group), members(wide))

    def test_wider_groups(self):
        groups = WIDER + (LINEAR_168, symmetric(6), (8, ()), (12, ()), (7, ()))
        for group, other in itertools.product(groups, repeat=2):
            if group[0] == other[0]:
                wide = moved(other, shuffled(other[0], 31))
                self.check(group, wide, members(group), members(wide))

    def test_great_groups(self):
        for group, other in itertools.product(GREAT_ONES, repeat=2):
            if group[0] == other[0]:
                wide = moved(other, shuffled(other[0], 4))
                told = meet(group, wide)
                self.assertTrue(all(contains(group, p) and contains(wide, p) for p in told[1]))
                self.assertLessEqual(len(told[1]), 12)
                self.check_size(group, wide, told)

    def check_size(self, group, other, told):
        """The meet has as many elements as a full search in the smaller group finds, where that is not too large."""
        less, more = sorted((group, other), key=order)
        if order(less) <= 8000:
            self.assertEqual(members(told), [p for p in members(less) if contains(more, p)])

    def test_known_meets(self):
        for group in GREAT_ONES:
            self.assertTrue(same(meet(group, symmetric(group[0])), group))
            self.assertTrue(same(meet(symmetric(group[0]), group), group))
            self.assertTrue(same(meet(group, group), group))
            self.assertEqual(order(meet(group, (group[0], ()))), 1)
        self.assertEqual(order(meet(EVEN_AND_SWAP, alternating(12))), 1814400)
        point = (12, symmetric(11)[1] and tuple(p + (11,) for p in symmetric(11)[1]))
        self.assertEqual(order(meet(MATHIEU_12, point)), 7920)
        self.assertEqual(order(meet(point, moved(point, cyc(12, (0, 11))))), 3628800)
        halves = (12, (cyc(12, range(6)), cyc(12, (0, 1))))
        self.assertEqual(order(meet(halves, moved(halves, cyc(12, *[(k, k + 6) for k in range(6)])))), 1)

    def test_equal_answers(self):
        self.assertEqual(meet(GREAT_ONES[3], GREAT_ONES[6]), meet(GREAT_ONES[3], GREAT_ONES[6]))

    def test_errors(self):
        for value, index in WRONG_GROUPS:
            expect(self, BadGroup, {"index": index}, meet, value, None)
            expect(self, BadGroup, {"index": index}, meet, SQUARE, value)
        expect(self, BadDegree, {}, meet, SQUARE, (3, ()))
        expect(self, BadDegree, {}, meet, (3, ()), SQUARE)


class TestCarryTuple(unittest.TestCase):
    def check(self, group, rows, points, images):
        program = carry_tuple(group, points, images)
        carrying = any(tuple(p[x] for x in points) == images for p in rows)
        self.assertEqual(program is not None, carrying)
        if carrying:
            p = run_program(group, program)
            self.assertEqual(p, run_steps(group[0], group[1], program))
            self.assertEqual(tuple(p[x] for x in points), images)

    def test_short_tuples(self):
        for group in SMALL:
            rows = members(group)
            for size in (0, 1, 2):
                tuples = list(itertools.product(range(group[0]), repeat=size))
                for points, images in itertools.product(tuples, repeat=2):
                    self.check(group, rows, points, images)

    def test_long_tuples(self):
        for group in SMALL + WIDER:
            degree, rows = group[0], members(group)
            for seed in range(12):
                points = tuple(shuffled(degree, seed + k)[0] for k in range(seed))
                p = rows[(seed * 7) % len(rows)]
                images = tuple(p[x] for x in points)
                self.check(group, rows, points, images)
                for place in range(0, len(points), 3):
                    changed = images[:place] + ((images[place] + 1) % degree,) + images[place + 1:]
                    self.check(group, rows, points, changed)

    def test_great_groups(self):
        for group in GREAT_ONES:
            degree = group[0]
            told = group[1][0]
            for q in group[1] * 2:
                told = tuple(q[told[x]] for x in range(degree))
                for points in ((), (0, 0), (2, 5, 2), tuple(range(degree)), tuple(range(degree))[::-1] * 3):
                    images = tuple(told[x] for x in points)
                    p = run_program(group, carry_tuple(group, points, images))
                    self.assertEqual(tuple(p[x] for x in points), images)
        # The other images of two points are fixed by those of the rest.
        self.assertIsNone(carry_tuple(alternating(12), tuple(range(10)), tuple(range(8)) + (9, 9)))
        every = tuple(range(12))
        self.assertIsNone(carry_tuple(alternating(12), every, cyc(12, (3, 7))))
        self.assertEqual(run_program(symmetric(12), carry_tuple(symmetric(12), every, cyc(12, (3, 7)))), cyc(12, (3, 7)))
        self.assertIsNone(carry_tuple(MATHIEU_12, (0, 1, 2, 3, 4, 5), self.no_images()))

    def no_images(self):
        """Six images that no element of the group has, as five images are those of one element only."""
        p = run_program(MATHIEU_12, carry_tuple(MATHIEU_12, (0, 1, 2, 3, 4), (5, 7, 2, 11, 0)))
        return (5, 7, 2, 11, 0, [x for x in range(12) if x not in (5, 7, 2, 11, 0, p[5])][0])

    def test_equal_points(self):
        for p in all_perms(3):
            self.assertIsNone(carry_tuple(symmetric(3), (0, 1, 0), (p[0], p[1], p[2])))
            self.assertIsNone(carry_tuple(symmetric(3), (0, 1), (p[0], p[0])))
            self.assertIsNotNone(carry_tuple(symmetric(3), (0, 1, 0, 1), (p[0], p[1]) * 2))

    def test_errors(self):
        for value, index in WRONG_GROUPS:
            expect(self, BadGroup, {"index": index}, carry_tuple, value, None, None)
        for value in NO_TUPLES:
            expect(self, BadTuple, {}, carry_tuple, SQUARE, value, (0,))
            expect(self, BadTuple, {}, carry_tuple, SQUARE, (0,), value)
            expect(self, BadTuple, {}, carry_tuple, SQUARE, value, value)
        for points, images in (((), (0,)), ((0,), ()), ((0, 1), (0,)), ((0, 0), (1, 1, 1))):
            expect(self, BadTuple, {}, carry_tuple, SQUARE, points, images)


if __name__ == "__main__":
    unittest.main()
