import itertools
import math
import unittest

from brute import (
    MATHIEU_11, MATHIEU_12, ODD_VALUES, SMALL, SQUARE, WIDER, cyc, expect, members, one, ring, run_steps, symmetric, times,
    turned,
)
from stronggens.errors import (
    BadColoring, BadCounts, BadGroup, BadNumber, BadPoint, NotRegular, NotTransitive, TooMany,
)
from stronggens.fixed import (
    carriers, colorings, colorings_with, cycle_index, frobenius_kernel, least_coloring, patterns, regular_normal, unfixed,
    unfixed_count,
)

LISTED = SMALL + WIDER
TOO_GREAT = (MATHIEU_11, symmetric(7), symmetric(12))


def colored(coloring, p):
    """Each image has the color of its point."""
    images = [None] * len(p)
    for point, color in enumerate(coloring):
        images[p[point]] = color
    return tuple(images)


def color_orbits(group, colors):
    """The set of all orbits, each a frozen set, of the colorings with so many colors."""
    rows = members(group)
    return {frozenset(colored(coloring, p) for p in rows)
            for coloring in itertools.product(range(colors), repeat=group[0])}


def fixed_number(p):
    return sum(x == y for x, y in enumerate(p))


def transitive(group):
    return len({p[0] for p in members(group)}) == group[0]


class TestColorings(unittest.TestCase):
    def test_against_all_colorings(self):
        for group in SMALL:
            for colors in range(4 if group[0] < 6 else 3):
                orbits = color_orbits(group, colors)
                self.assertEqual(colorings(group, colors), len(orbits))
                renamings = list(itertools.permutations(range(colors)))
                classes = {frozenset(tuple(names[c] for c in coloring) for coloring in orbit for names in renamings)
                           for orbit in orbits}
                self.assertEqual(patterns(group, colors), len(classes))
                for counts in itertools.product(range(group[0] + 1), repeat=colors):
                    if sum(counts) == group[0]:
                        number = sum(all(min(orbit).count(k) == many for k, many in enumerate(counts)) for orbit in orbits)
                        self.assertEqual(colorings_with(group, counts), number)

    def test_more_colors(self):
        group = symmetric(3)
        for colors in range(7):
            self.assertEqual(colorings(group, colors), math.comb(colors + 2, 3))
        self.assertEqual([patterns((3, ()), 4), patterns(SQUARE, 4), patterns((5, ()), 4)], [5, 7, 51])
        self.assertEqual(colorings((12, ()), 6), 6 ** 12)
        self.assertEqual(colorings_with((12, ()), (2,) * 6), math.factorial(12) // 2 ** 6)
        self.assertEqual(colorings_with(SQUARE, (0, 2, 0, 2, 0, 0)), 2)

    def test_no_colors(self):
        for group in ((1, ()), SQUARE, (12, ())):
            self.assertEqual([colorings(group, 0), patterns(group, 0), colorings(group, 1), patterns(group, 1)], [0, 0, 1, 1])

    def test_cycle_index(self):
        for group in LISTED:
            found = {}
            for p in members(group):
                lengths, seen = [], set()
                for x in range(group[0]):
                    size = 0
                    while x not in seen:
                        seen.add(x)
                        x, size = p[x], size + 1
                    lengths += [size] * (size > 0)
                found[tuple(sorted(lengths))] = found.get(tuple(sorted(lengths)), 0) + 1
            self.assertEqual(cycle_index(group), sorted(found.items()))
        self.assertEqual(cycle_index((1, ())), [((1,), 1)])

    def test_least_coloring(self):
        for group in SMALL:
            for coloring in itertools.product(range(3), repeat=min(group[0], 5)):
                coloring = coloring + (5,) * (group[0] - len(coloring))
                self.assertEqual(least_coloring(group, coloring), min(colored(coloring, p) for p in members(group)))
        self.assertEqual(least_coloring(symmetric(12), (1,) * 11 + (0,)), (0,) + (1,) * 11)
        self.assertEqual(least_coloring(symmetric(12), (1, 0) * 6), (0,) * 6 + (1,) * 6)
        self.assertEqual(least_coloring((3, (ring(3),)), (0, 5, 1)), (0, 5, 1))
        self.assertEqual(least_coloring((4, (ring(4),)), (2, 3, 1, 4)), (1, 4, 2, 3))

    def test_wrong_numbers(self):
        for value in (None, True, False, -1, 7, "2", (2,), [2], {}, 10 ** 30):
            for group in (SQUARE, symmetric(12)):
                expect(self, BadNumber, {}, colorings, group, value)
                expect(self, BadNumber, {}, patterns, group, value)
        for value in (5, 6):
            expect(self, BadNumber, {}, patterns, SQUARE, value)
            self.assertGreater(colorings(SQUARE, value), 0)

    def test_wrong_counts(self):
        for value in (None, True, 4, "4", [4], {}, (), (3,), (5,), (2, 3), (5, -1), (3, 2, -1), (-1, 2, 3), (4, 0, 0, 0, 0, 0, 0), (True, 3), (4, False),
                      (4, None), ("4",), ((4,),), ([4],), (10 ** 30, 4 - 10 ** 30)):
            for group in (SQUARE, (4, ())):
                expect(self, BadCounts, {}, colorings_with, group, value)
            expect(self, BadCounts, {}, colorings_with, symmetric(12), value)
        self.assertEqual([colorings_with(SQUARE, (4,)), colorings_with(SQUARE, (0, 4, 0, 0, 0, 0))], [1, 1])

    def test_wrong_colorings(self):
        for value in (None, True, 4, "0000", [0, 0, 0, 0], {}, (), (0, 0, 0), (0, 0, 0, 0, 0), (0, 0, 0, 6), (0, -1, 0, 0),
                      (0, True, 0, 0), (False, 0, 0, 0), (0, 0, 0, None), ((0,), 0, 0, 0), ([0], 0, 0, 0), (0, 0, "0", 0)):
            expect(self, BadColoring, {}, least_coloring, SQUARE, value)
            expect(self, BadColoring, {}, least_coloring, symmetric(4), value)

    def test_too_many(self):
        for group in TOO_GREAT:
            expect(self, TooMany, {"most": 2000}, colorings, group, 2)
            expect(self, TooMany, {"most": 2000}, colorings, group, 0)
            expect(self, TooMany, {"most": 2000}, colorings_with, group, (group[0],))
            expect(self, TooMany, {"most": 2000}, patterns, group, 2)
            expect(self, TooMany, {"most": 2000}, cycle_index, group)
        expect(self, TooMany, {"most": 2000}, least_coloring, symmetric(7), (0, 1, 2, 3, 4, 5, 5))
        expect(self, TooMany, {"most": 2000}, least_coloring, symmetric(12), (0, 0, 0, 0, 1, 1, 1, 1, 2, 2, 2, 2))
        self.assertEqual(least_coloring(symmetric(7), (1, 0, 2, 1, 1, 0, 1)), (0, 0, 1, 1, 1, 1, 2))
        self.assertEqual(colorings(symmetric(6), 2), 7)


class TestUnfixed(unittest.TestCase):
    def test_against_all_members(self):
        for group in LISTED:
            rows = [p for p in members(group) if fixed_number(p) == 0]
            self.assertEqual(unfixed_count(group), len(rows))
            program = unfixed(group)
            if rows:
                self.assertIn(run_steps(*group, program), rows)
                self.assertTrue(type(program) is tuple and 0 < len(program) <= 2000)
            else:
                self.assertIsNone(program)

    def test_frobenius_kernel(self):
        found = 0
        for group in LISTED:
            rows = members(group)
            numbers = [fixed_number(p) for p in rows if p != one(group[0])]
            if transitive(group) and max(numbers, default=0) == 1:
                kernel = tuple(p for p in rows if p == one(group[0]) or fixed_number(p) == 0)
                self.assertEqual(frobenius_kernel(group), kernel)
                self.assertEqual(len(kernel), group[0])
                found += 1
            else:
                self.assertIsNone(frobenius_kernel(group))
        self.assertGreater(found, 5)
        self.assertIsNone(frobenius_kernel((1, ())))
        self.assertIsNone(frobenius_kernel((2, ())))

    def test_regular_normal(self):
        for group in LISTED:
            if not transitive(group):
                expect(self, NotTransitive, {}, regular_normal, group)
            elif group[0] <= 6:
                self.assertEqual(regular_normal(group), self.brute_regular_normal(group))
        self.assertEqual(regular_normal((1, ())), [((0,),)])
        # An abelian group of 8 elements on 8 points is regular itself.
        self.assertEqual(regular_normal(WIDER[2]), [tuple(members(WIDER[2]))])
        self.assertEqual([len(part) for part in regular_normal(WIDER[3])], [9])
        self.assertEqual(regular_normal(symmetric(6)), [])
        self.assertEqual(len(regular_normal(symmetric(4))), 1)
        self.assertEqual(len(regular_normal((12, (ring(12),)))), 1)
        # Of the octagon's symmetries: the turns, and half of them with the reflections that fix no corner.
        self.assertEqual(len(regular_normal(WIDER[1])), 2)

    def brute_regular_normal(self, group):
        degree, rows = group[0], members(group)
        free = [p for p in rows if fixed_number(p) == 0]
        found = []
        for part in itertools.combinations(free, degree - 1):
            full = {one(degree), *part}
            if len({p[0] for p in full}) == degree and all(times(p, q) in full for p in full for q in full):
                if all(times(turned(g), times(p, g)) in full for p in full for g in group[1]):
                    found.append(tuple(sorted(full)))
        return sorted(found)

    def test_too_many(self):
        for group in TOO_GREAT:
            for function in (unfixed_count, unfixed, frobenius_kernel, regular_normal):
                expect(self, TooMany, {"most": 2000}, function, group)
        split = (12, (cyc(12, range(7)), cyc(12, (0, 1)), cyc(12, (7, 8))))
        expect(self, NotTransitive, {}, regular_normal, split)
        expect(self, TooMany, {"most": 2000}, frobenius_kernel, split)


class TestCarriers(unittest.TestCase):
    def test_against_the_rows(self):
        for group in LISTED:
            if not transitive(group):
                continue
            for rows in regular_normal(group):
                for point in range(group[0]):
                    told = carriers(group, rows, point)
                    self.assertEqual(tuple(p[point] for p in told), tuple(range(group[0])))
                    self.assertEqual(sorted(told), list(rows))

    def test_great_groups(self):
        twelve = symmetric(12)
        rows = tuple(tuple((x + k) % 12 for x in range(12)) for k in range(12))
        self.assertEqual(carriers(twelve, rows, 0), rows)
        self.assertEqual(carriers(twelve, rows, 5), rows[7:] + rows[:7])
        expect(self, NotRegular, {}, carriers, MATHIEU_11, tuple(rows), 0)
        turns = tuple(tuple((x + k) % 11 for x in range(11)) for k in range(11))
        self.assertEqual(carriers(MATHIEU_11, turns, 1), (turns[10],) + turns[:10])

    def test_not_normal_is_allowed(self):
        turns = tuple(members((4, (ring(4),))))
        self.assertEqual(carriers(symmetric(4), turns, 0), turns)
        self.assertNotIn(turns, regular_normal(symmetric(4)))

    def test_not_regular(self):
        turns = tuple(members((4, (ring(4),))))
        for value in (None, True, 0, "", [], {}, (), turns[:3], turns + turns[3:], list(turns), tuple(reversed(turns)),
                      (turns[0],) * 4, turns[:3] + ((3, 0, 1, True),), turns[:3] + ([3, 0, 1, 2],), turns[:3] + (None,),
                      tuple(members((4, (cyc(4, (0, 1)), cyc(4, (2, 3)))))), ((0,), (1,), (2,), (3,)),
                      ((0, 1, 2, 3), (1, 2, 3, 0), (2, 3, 0, 1), (3, 2, 1, 0)), ([], [], [], []), turns[1:] + turns[:1]):
            for point in (0, None, 4):
                expect(self, NotRegular, {}, carriers, SQUARE, value, point)
        # A regular subgroup of the full symmetric group that is none of the group's.
        expect(self, NotRegular, {}, carriers, (4, ((1, 0, 3, 2), (2, 3, 0, 1))), turns, 0)
        self.assertEqual(carriers((1, ()), ((0,),), 0), ((0,),))
        expect(self, NotRegular, {}, carriers, (2, ()), ((0, 1), (1, 0)), 0)

    def test_wrong_points(self):
        turns = tuple(members((4, (ring(4),))))
        for value in (None, True, False, -1, 4, "0", (0,), [0], {}, 10 ** 30):
            expect(self, BadPoint, {}, carriers, SQUARE, turns, value)

    def test_the_group_comes_first(self):
        for value in ODD_VALUES:
            for function in (cycle_index, unfixed_count, unfixed, frobenius_kernel, regular_normal):
                expect(self, BadGroup, {"index": None}, function, value)
            for function in (colorings, colorings_with, patterns, least_coloring):
                expect(self, BadGroup, {"index": None}, function, value, None)
            expect(self, BadGroup, {"index": None}, carriers, value, None, None)
        expect(self, BadGroup, {"index": 1}, colorings, (2, ((1, 0), (1, 1))), 9)
        self.assertEqual(unfixed_count(MATHIEU_12[:1] + ((),)), 0)


if __name__ == "__main__":
    unittest.main()
