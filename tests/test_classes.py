import unittest

from brute import MATHIEU_11, ODD_VALUES, closure, cyc, expect, members, one, ring, symmetric, times
from small import ALTERNATING_5, GREAT, TOO_GREAT, UP_TO_24, UP_TO_60, conj
from stronggens.classes import class_constants, class_of, classes, commuting_pairs
from stronggens.errors import BadGroup, BadPermutation, NotMember, TooMany
from test_primes import WRONG_GROUPS


def plain_classes(group):
    rows = members(group)
    return sorted({tuple(sorted({conj(p, g) for g in rows})) for p in rows})


class TestClasses(unittest.TestCase):
    def test_by_each_element(self):
        for group in UP_TO_60 + GREAT:
            expected = plain_classes(group)
            self.assertEqual(classes(group), expected)
            self.assertEqual(commuting_pairs(group), len(expected) * len(members(group)))
            for row in expected:
                self.assertEqual(class_of(group, row[0]), row)
                self.assertEqual(class_of(group, row[-1]), row)

    def test_commuting_pairs(self):
        for group in UP_TO_60:
            rows = members(group)
            self.assertEqual(commuting_pairs(group), sum(times(p, q) == times(q, p) for p in rows for q in rows))

    def test_two_thousand(self):
        # Four times the symmetric group of three points: 1296 elements.
        group = (12, tuple(cyc(12, *rows) for k in range(0, 12, 3) for rows in (((k, k + 1, k + 2),), ((k, k + 1),))))
        self.assertEqual(len(classes(group)), 81)
        self.assertEqual(commuting_pairs(group), 81 * 1296)
        self.assertEqual(len(classes(symmetric(6))), 11)
        self.assertEqual(len(class_of(symmetric(6), ring(6))), 120)
        expect(self, TooMany, {"most": 2000}, classes, symmetric(7))

    def test_new_lists(self):
        found = classes(symmetric(3))
        found.clear()
        self.assertEqual(len(classes(symmetric(3))), 3)

    def test_errors(self):
        for value, index in WRONG_GROUPS:
            for function in (classes, commuting_pairs, class_constants):
                expect(self, BadGroup, {"index": index}, function, value)
            expect(self, BadGroup, {"index": index}, class_of, value, None)
        for group in TOO_GREAT + (MATHIEU_11,):
            expect(self, TooMany, {"most": 2000}, classes, group)
            expect(self, TooMany, {"most": 2000}, commuting_pairs, group)
            expect(self, TooMany, {"most": 60}, class_constants, group)
            for value in (None, one(group[0]), (0, 0)):
                expect(self, TooMany, {"most": 2000}, class_of, group, value)
        expect(self, TooMany, {"most": 60}, class_constants, symmetric(5))
        for value in ODD_VALUES + ((0, 1, 3), (0, 1), (0, 1, 2, 3), (True, 0, 2), [0, 1, 2]):
            expect(self, BadPermutation, {}, class_of, (3, (ring(3),)), value)
        expect(self, NotMember, {}, class_of, (3, (ring(3),)), (1, 0, 2))
        expect(self, NotMember, {}, class_of, ALTERNATING_5, (1, 0, 2, 3, 4))
        expect(self, NotMember, {}, class_of, (3, ()), (1, 0, 2))


class TestConstants(unittest.TestCase):
    def test_by_all_pairs(self):
        for group in UP_TO_24:
            self.check(group)

    def test_sixty(self):
        self.check(ALTERNATING_5)
        self.check(UP_TO_60[-2])

    def check(self, group):
        told = class_constants(group)
        rows = plain_classes(group)
        place = {p: k for k, row in enumerate(rows) for p in row}
        counts = {}
        for p in place:
            for q in place:
                key = (place[p], place[q], times(p, q))
                counts[key] = counts.get(key, 0) + 1
        expected = tuple(tuple(tuple(counts.get((i, j, row[0]), 0) for row in rows) for j in range(len(rows)))
                         for i in range(len(rows)))
        self.assertEqual(told, expected)
        for row in rows:
            for r in row:
                self.assertEqual([[counts.get((i, j, r), 0) for j in range(len(rows))] for i in range(len(rows))],
                                 [[told[i][j][place[r]] for j in range(len(rows))] for i in range(len(rows))])

    def test_trivial_group(self):
        self.assertEqual(class_constants((4, ())), (((1,),),))
        self.assertEqual(classes((4, ())), [(one(4),)])
        self.assertEqual(closure(4, ()), [one(4)])


if __name__ == "__main__":
    unittest.main()
