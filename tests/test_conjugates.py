import unittest

from brute import MATHIEU_12, ODD_VALUES, SMALL, SQUARE, WIDER, all_perms, cyc, expect, members, one, ring, run_steps, shuffled, symmetric, times
from great import COUPLES, GREAT_ONES, HALVES, alternating
from small import GREAT, TOO_GREAT, UP_TO_60, conj
from stronggens.chains import order
from stronggens.conjugates import commuting, conjugating, least_conjugate
from stronggens.errors import BadGroup, BadTuple, TooMany
from stronggens.programs import run_program
from stronggens.roots import centralizer_size
from stronggens.sifting import contains
from test_primes import WRONG_GROUPS

NO_ROWS = ODD_VALUES[:-1] + ((one(3),), (one(4), None), (one(4), [0, 1, 2, 3]), [one(4)], (one(4),) * 7, ((0, 1, 2, True),), (one(4), (0, 0, 1, 2)), one(4),
                              {0: one(4)}, (one(5),), ((0, 1, 2, {}),))
NO_ROWS = tuple(value for value in NO_ROWS if value != ())


def by(some, g):
    return tuple(conj(p, g) for p in some)


def rows_of(group, seed):
    """Tuples of no to six permutations of the degree, some of them elements of the group."""
    rows, degree = members(group), group[0]
    for many in range(7):
        yield tuple(rows[(seed + 5 * k * k) % len(rows)] if (k + seed) % 3 else shuffled(degree, seed + k) for k in range(many))


class TestConjugates(unittest.TestCase):
    def test_by_all_elements(self):
        kinds = {True: 0, False: 0}
        for number, group in enumerate(SMALL + UP_TO_60[-8:] + WIDER[:3]):
            rows = members(group)
            for some in rows_of(group, number):
                found = {g: by(some, g) for g in rows}
                self.assertEqual(least_conjugate(group, some), min(found.values()))
                part = commuting(group, some)
                self.assertEqual(members(part), [g for g in rows if found[g] == some])
                self.assertLessEqual(len(part[1]), 12)
                for g in (rows[len(rows) // 2], rows[-1], shuffled(group[0], number)):
                    other = by(some, g)
                    self.check(group, some, other, found)
                    kinds[other in found.values()] += 1
                    if some:
                        changed = other[:-1] + (times(other[-1], rows[-1]),)
                        self.check(group, some, changed, found)
                        kinds[changed in found.values()] += 1
        self.assertGreater(min(kinds.values()), 100)

    def check(self, group, some, other, found):
        program = conjugating(group, some, other)
        self.assertEqual(program is not None, other in found.values())
        if program is not None:
            g = run_program(group, program)
            self.assertEqual(g, run_steps(group[0], group[1], program))
            self.assertEqual(found[g], other)

    def test_all_pairs_of_permutations(self):
        for group in SMALL:
            if group[0] == 4:
                rows = members(group)
                for p in all_perms(4):
                    found = {g: by((p,), g) for g in rows}
                    for q in all_perms(4):
                        self.check(group, (p,), (q,), found)

    def test_great_groups(self):
        for number, group in enumerate(GREAT_ONES):
            degree = group[0]
            told = group[1][0]
            for k, q in enumerate(group[1] * 2):
                told = times(told, q)
                some = tuple(shuffled(degree, number + j) if j % 2 else times(group[1][j % len(group[1])], told) for j in range(k % 4))
                self.check_great(group, some, by(some, told))
                self.assertTrue(all(by(some, g) == some and contains(group, g) for g in commuting(group, some)[1]))

    def check_great(self, group, some, other):
        g = run_program(group, conjugating(group, some, other))
        self.assertEqual(by(some, g), other)
        if other:
            wrong = other[:-1] + (times(other[-1], cyc(group[0], (0, 1))),)
            self.assertIsNone(conjugating(group, some, wrong))

    def test_centralizers_in_the_symmetric_group(self):
        for rows in ((), ((0, 1),), ((0, 1), (2, 3), (4, 5), (6, 7), (8, 9), (10, 11)), (range(12),), ((0, 1, 2), (3, 4, 5), (6, 7, 8)),
                     ((0, 1, 2, 3), (4, 5, 6, 7), (8, 9)), (range(7), range(7, 12)), ((3, 9, 5, 1), (2, 4))):
            p = cyc(12, *rows)
            self.assertEqual(order(commuting(symmetric(12), (p,))), centralizer_size(p))
        # Half of the permutations that commute with an odd one are even.
        self.assertEqual(order(commuting(alternating(12), (cyc(12, (0, 1)),))), 3628800)
        self.assertEqual(order(commuting(MATHIEU_12, (MATHIEU_12[1][0],))), 11)
        self.assertEqual(order(commuting(symmetric(12), MATHIEU_12[1])), 1)
        self.assertEqual(order(commuting(HALVES, ())), order(HALVES))
        swap = tuple(x ^ 1 for x in range(12))
        self.assertEqual(order(commuting(symmetric(12), (swap,))), order(COUPLES))
        self.assertEqual(order(commuting(COUPLES, (swap,))), order(COUPLES))

    def test_no_element_of_the_group(self):
        p, q = ring(12), tuple(ring(12).index(x) for x in range(12))
        self.assertIsNone(conjugating((12, (p,)), (p,), (q,)))
        self.assertIsNotNone(conjugating(symmetric(12), (p,), (q,)))
        self.assertIsNone(conjugating(symmetric(12), (p, p), (p, q)))
        # The conjugates of an 11-cycle by even permutations are only half of all.
        eleven = cyc(12, range(11))
        other = conj(eleven, cyc(12, (0, 1)))
        self.assertIsNone(conjugating(alternating(12), (eleven,), (other,)))
        self.assertIsNotNone(conjugating(symmetric(12), (eleven,), (other,)))

    def test_least_conjugates_tell(self):
        group = GREAT[0]
        rows = members(group)
        for p in rows[::9]:
            for q in rows[::11]:
                alike = least_conjugate(group, (p, q)) == least_conjugate(group, (q, p))
                self.assertEqual(conjugating(group, (p, q), (q, p)) is not None, alike)

    def test_two_thousand(self):
        self.assertEqual(least_conjugate(symmetric(6), (ring(6),)), ((1, 2, 3, 4, 5, 0),))
        for group in TOO_GREAT:
            expect(self, TooMany, {"most": 2000}, least_conjugate, group, ())
            expect(self, TooMany, {"most": 2000}, least_conjugate, group, (one(group[0]),))

    def test_errors(self):
        for value, index in WRONG_GROUPS:
            expect(self, BadGroup, {"index": index}, conjugating, value, None, None)
            expect(self, BadGroup, {"index": index}, least_conjugate, value, None)
            expect(self, BadGroup, {"index": index}, commuting, value, None)
        for value in NO_ROWS:
            expect(self, BadTuple, {}, conjugating, SQUARE, value, ())
            expect(self, BadTuple, {}, conjugating, SQUARE, value, value)
            expect(self, BadTuple, {}, conjugating, SQUARE, (), value)
            expect(self, BadTuple, {}, conjugating, SQUARE, (one(4),), value)
            expect(self, BadTuple, {}, least_conjugate, SQUARE, value)
            expect(self, BadTuple, {}, commuting, SQUARE, value)
            expect(self, BadTuple, {}, least_conjugate, TOO_GREAT[0], value)
        for some, other in (((), (one(4),)), ((one(4),), ()), ((one(4),) * 6, (one(4),) * 5)):
            expect(self, BadTuple, {}, conjugating, SQUARE, some, other)
        self.assertIsNotNone(conjugating(SQUARE, (one(4),) * 6, (one(4),) * 6))


if __name__ == "__main__":
    unittest.main()
