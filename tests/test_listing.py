import unittest

from brute import (
    MATHIEU_11, MATHIEU_12, ODD_VALUES, SMALL, SQUARE, WIDER, all_perms, cyc, expect, members, one, ring, shuffled,
    symmetric, times, turned,
)
from stronggens.chains import order
from stronggens.errors import BadGroup, BadNumber, BadPermutation, NotMember, TooMany
from stronggens.listing import (
    all_elements, count_below, element, least_in_coset, next_element, rank_of, same_coset,
)
from stronggens.sifting import contains

GREAT = (MATHIEU_11, MATHIEU_12, symmetric(12), (12, (cyc(12, range(7)), cyc(12, range(7, 12)), cyc(12, (0, 1)))))


class TestListing(unittest.TestCase):
    def test_all_elements(self):
        for group in SMALL + WIDER:
            self.assertEqual(all_elements(group), tuple(members(group)))
        self.assertEqual(all_elements((1, ())), ((0,),))
        self.assertEqual(len(all_elements(symmetric(6))), 720)

    def test_limit(self):
        for group in GREAT + (symmetric(7),):
            expect(self, TooMany, {"most": 2000}, all_elements, group)
        beyond = (12, (cyc(12, range(6)), cyc(12, (0, 1)), cyc(12, (6, 7, 8))))
        self.assertEqual(order(beyond), 2160)
        expect(self, TooMany, {"most": 2000}, all_elements, beyond)
        within = (12, (cyc(12, range(5)), cyc(12, (0, 1)), cyc(12, (5, 6, 7, 8)), cyc(12, (5, 7)), cyc(12, (9, 10))))
        self.assertEqual(order(within), 1920)
        self.assertEqual(len(all_elements(within)), 1920)

    def test_numbers_of_small_groups(self):
        for group in SMALL + WIDER:
            rows = members(group)
            for place, p in enumerate(rows):
                self.assertEqual(element(group, place), p)
                self.assertEqual(rank_of(group, p), place)
                self.assertEqual(count_below(group, p), place)
                self.assertEqual(next_element(group, p), rows[place + 1] if place + 1 < len(rows) else None)
            for value in (-1, len(rows), 10 ** 30):
                expect(self, BadNumber, {}, element, group, value)

    def test_other_permutations(self):
        for group in SMALL:
            rows = members(group)
            for p in all_perms(group[0])[::1 if group[0] < 6 else 7]:
                below = [q for q in rows if q < p]
                above = [q for q in rows if q > p]
                self.assertEqual(count_below(group, p), len(below))
                self.assertEqual(next_element(group, p), above[0] if above else None)
                if p not in rows:
                    expect(self, NotMember, {}, rank_of, group, p)

    def test_great_groups(self):
        for group in GREAT:
            size = order(group)
            self.assertEqual(element(group, 0), one(group[0]))
            self.assertIsNone(next_element(group, element(group, size - 1)))
            before = None
            for place in (1, 2, 100, size // 3, size // 2, size - 2, size - 1):
                p = element(group, place)
                self.assertIs(contains(group, p), True)
                self.assertEqual([rank_of(group, p), count_below(group, p)], [place, place])
                self.assertEqual(next_element(group, element(group, place - 1)), p)
                self.assertTrue(before is None or before < p)
                before = p
            expect(self, BadNumber, {}, element, group, size)
            for seed in range(20):
                p = shuffled(group[0], seed)
                below = count_below(group, p)
                inside = contains(group, p)
                if below:
                    self.assertLess(element(group, below - 1), p)
                later = next_element(group, p)
                if below + inside < size:
                    self.assertEqual(later, element(group, below + inside))
                    self.assertGreater(later, p)
                else:
                    self.assertIsNone(later)
        self.assertEqual(element(symmetric(12), 479001599), tuple(range(11, -1, -1)))
        self.assertEqual(element(symmetric(12), 39916800), (1, 0) + tuple(range(2, 12)))


class TestCosets(unittest.TestCase):
    def test_small_groups(self):
        for group in SMALL:
            rows = members(group)
            for p in all_perms(group[0])[::1 if group[0] < 5 else 11]:
                right, left = [times(h, p) for h in rows], [times(p, h) for h in rows]
                self.assertEqual(least_in_coset(group, p), min(right))
                self.assertEqual(least_in_coset(group, p, left=False), min(right))
                self.assertEqual(least_in_coset(group, p, left=True), min(left))
                for q in all_perms(group[0])[::1 if group[0] < 5 else 17]:
                    self.assertIs(same_coset(group, p, q), q in right)
                    self.assertIs(same_coset(group, p, q, left=False), q in right)
                    self.assertIs(same_coset(group, p, q, left=True), q in left)

    def test_great_groups(self):
        for group in GREAT:
            for seed in range(15):
                p, h = shuffled(group[0], seed), element(group, (seed + 1) * 1234567 % order(group))
                for left in (False, True):
                    q = times(p, h) if left else times(h, p)
                    least = least_in_coset(group, p, left=left)
                    self.assertLessEqual(least, min(p, q))
                    self.assertEqual(least_in_coset(group, q, left=left), least)
                    self.assertIs(same_coset(group, p, q, left=left), True)
                    self.assertIs(same_coset(group, least, p, left=left), True)
                    other = shuffled(group[0], seed + 99)
                    again = least_in_coset(group, other, left=left) == least
                    self.assertIs(same_coset(group, p, other, left=left), again)
            self.assertEqual(least_in_coset(group, turned(group[1][0]), left=True), one(group[0]))

    def test_the_side_is_told_by_name(self):
        with self.assertRaises(TypeError):
            least_in_coset(SQUARE, one(4), True)
        with self.assertRaises(TypeError):
            same_coset(SQUARE, one(4), one(4), True)


class TestErrors(unittest.TestCase):
    def test_wrong_numbers(self):
        for value in (None, True, False, -1, 8, "0", (0,), [0], {}, 10 ** 30):
            expect(self, BadNumber, {}, element, SQUARE, value)

    def test_wrong_permutations(self):
        for value in ODD_VALUES + ((), (0, 1, 2), (0, 1, 2, 3, 4), [0, 1, 2, 3], (0, True, 2, 3), (False, 1, 2, 3)):
            for function in (rank_of, count_below, next_element, least_in_coset):
                expect(self, BadPermutation, {}, function, SQUARE, value)
            expect(self, BadPermutation, {}, least_in_coset, SQUARE, value, left=True)
            for left in (False, True):
                expect(self, BadPermutation, {}, same_coset, SQUARE, value, one(4), left=left)
                expect(self, BadPermutation, {}, same_coset, SQUARE, one(4), value, left=left)

    def test_not_members(self):
        expect(self, NotMember, {}, rank_of, SQUARE, cyc(4, (0, 1)))
        expect(self, NotMember, {}, rank_of, MATHIEU_12, cyc(12, (0, 1)))
        expect(self, NotMember, {}, rank_of, (3, ()), ring(3))

    def test_the_group_comes_first(self):
        for value in ODD_VALUES:
            expect(self, BadGroup, {"index": None}, all_elements, value)
            for function in (element, rank_of, count_below, next_element, least_in_coset):
                expect(self, BadGroup, {"index": None}, function, value, None)
            expect(self, BadGroup, {"index": None}, same_coset, value, None, None)
        expect(self, BadGroup, {"index": 0}, element, (3, ((0, 0, 0),)), -1)


if __name__ == "__main__":
    unittest.main()
