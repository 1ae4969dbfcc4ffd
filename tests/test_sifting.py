import unittest

from brute import (
    MATHIEU_11, MATHIEU_12, ODD_VALUES, SMALL, SQUARE, WIDER, all_perms, cyc, expect, members, one, ring, run_steps,
    shuffled, symmetric, times, turned,
)
from stronggens.chains import base_points
from stronggens.errors import BadGroup, BadPermutation
from stronggens.programs import run_program
from stronggens.sifting import contains, membership, outsider, shows_outsider

GREAT = (
    MATHIEU_11, MATHIEU_12, symmetric(12), (12, tuple(cyc(12, (0, 1, k)) for k in range(2, 12))),
    (12, (cyc(12, range(5)), cyc(12, range(5, 12)), cyc(12, (0, 1)))),
    (12, tuple(shuffled(12, seed) for seed in range(12))),
)


def is_certificate(group, p, program, k):
    """By the words of the document, with all elements of a small group."""
    points = base_points(group)
    rest = times(p, run_steps(*group, program))
    if any(rest[point] != point for point in points[:k]):
        return False
    if k == len(points):
        return rest != one(group[0])
    level = [q for q in members(group) if all(q[point] == point for point in points[:k])]
    return rest[points[k]] not in {q[points[k]] for q in level}


class TestMembership(unittest.TestCase):
    def test_small_groups(self):
        for group in SMALL:
            rows = set(members(group))
            for p in all_perms(group[0])[::1 if group[0] < 6 else 5]:
                self.assertIs(contains(group, p), p in rows)
                program, told = membership(group, p), outsider(group, p)
                if p in rows:
                    self.assertEqual(run_program(group, program), p)
                    self.assertEqual(run_steps(*group, program), p)
                    self.assertIsNone(told)
                else:
                    self.assertIsNone(program)
                    self.assertTrue(is_certificate(group, p, *told))
                    self.assertIs(shows_outsider(group, p, told), True)

    def test_great_groups(self):
        for group in GREAT:
            inside = outside = 0
            for seed in range(40):
                p = shuffled(group[0], seed)
                if seed % 2:
                    p = one(group[0])
                    for k in range(seed):
                        q = group[1][k * seed % len(group[1])]
                        p = times(times(p, q), turned(p)) if k % 3 == 0 else times(q, p)
                program, told = membership(group, p), outsider(group, p)
                self.assertIs(contains(group, p), program is not None)
                if program is None:
                    outside += 1
                    self.assertEqual(seed % 2, 0)
                    self.assertIs(shows_outsider(group, p, told), True)
                else:
                    inside += 1
                    self.assertIsNone(told)
                    self.assertLessEqual(len(program), 2000)
                    self.assertEqual(run_program(group, program), p)
            self.assertGreaterEqual(inside, 20)
            self.assertTrue(outside or group[0] == 12)

    def test_trivial_group(self):
        self.assertEqual([membership((3, ()), one(3)), outsider((3, ()), one(3)), outsider((3, ()), (1, 0, 2))],
                         [(), None, ((), 0)])
        self.assertEqual([membership((1, ()), (0,)), contains((1, ()), (0,))], [(), True])


class TestCertificates(unittest.TestCase):
    def test_all_certificates_of_small_groups(self):
        for group in (SQUARE, (4, (cyc(4, (0, 1, 2)),)), (4, (cyc(4, (2, 3)),)), (3, ()), (5, (cyc(5, (0, 1)), cyc(5, (2, 3, 4))))):
            many = len(group[1])
            programs = [()] + [(("gen", i),) for i in range(many)] + [
                (("gen", i), ("gen", j), ("mul", 0, 1)) for i in range(many) for j in range(many)]
            for p in all_perms(group[0])[::1 if group[0] < 5 else 4]:
                for program in programs:
                    for k in range(-1, len(base_points(group)) + 2):
                        good = 0 <= k <= len(base_points(group)) and is_certificate(group, p, program, k)
                        self.assertIs(shows_outsider(group, p, (program, k)), good)

    def test_bent_certificates(self):
        p = (1, 0, 2, 3)
        program, k = outsider(SQUARE, p)
        self.assertIs(shows_outsider(SQUARE, p, (program, k)), True)
        for value in ([program, k], (program, k, 0), (program,), (program, None), (program, True), (program, False),
                      (program, -1), (program, 3), (program, 10 ** 30), (program, "1"), (program, (k,)), (program, [k]),
                      (list(program), k), (None, k), ("", k), ({}, k), (program + (("gen", 2),), k), ((("gen", True),), k),
                      ((("mul", 0, 0),), k), ((None,) * 2001, k), ((("gen", 0),) * 2001, k), (k, program)):
            self.assertIs(shows_outsider(SQUARE, p, value), False, value)
        for value in ODD_VALUES:
            self.assertIs(shows_outsider(SQUARE, p, value), False, value)
            self.assertIs(shows_outsider(SQUARE, one(4), value), False, value)

    def test_elements_have_none(self):
        for p in members(SQUARE):
            for program in ((), (("gen", 0),), (("gen", 1), ("gen", 0), ("mul", 0, 1))):
                for k in range(3):
                    self.assertIs(shows_outsider(SQUARE, p, (program, k)), False)

    def test_points_that_are_no_base_points(self):
        # The base is (1, 2): what moves 0 or 3 is told by the last number.
        group = (5, (cyc(5, (1, 2, 4)), cyc(5, (1, 2))))
        self.assertEqual(base_points(group), (1, 2))
        self.assertEqual(outsider(group, cyc(5, (0, 3))), ((), 2))
        self.assertIs(shows_outsider(group, cyc(5, (0, 3)), ((), 2)), True)
        for seed in range(30):
            p = shuffled(5, seed)
            if p not in members(group):
                self.assertTrue(is_certificate(group, p, *outsider(group, p)))


class TestErrors(unittest.TestCase):
    def test_wrong_permutations(self):
        for value in ODD_VALUES + ((), (0, 1, 2), (0, 1, 2, 3, 4), [0, 1, 2, 3], (0, True, 2, 3)):
            for function in (contains, membership, outsider):
                expect(self, BadPermutation, {}, function, SQUARE, value)
            expect(self, BadPermutation, {}, shows_outsider, SQUARE, value, None)
            expect(self, BadPermutation, {}, shows_outsider, SQUARE, value, ((), 0))

    def test_the_group_comes_first(self):
        for value in ODD_VALUES:
            for function in (contains, membership, outsider):
                expect(self, BadGroup, {"index": None}, function, value, None)
            expect(self, BadGroup, {"index": None}, shows_outsider, value, None, None)
        expect(self, BadGroup, {"index": 1}, contains, (2, ((1, 0), (1, 1))), (2, 2))
        self.assertIs(contains(WIDER[0], ring(7)), True)


if __name__ == "__main__":
    unittest.main()
