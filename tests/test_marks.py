import itertools
import unittest

from brute import ODD_VALUES, cyc, expect, members, ring, symmetric, times
from gsets import NO_GSETS, beside, cosets_of, fixed, images_of, plain_coset_set, renamed, some_gsets, stabilizer
from small import ALTERNATING_5, GREAT, TOO_GREAT, UP_TO_24, UP_TO_60, all_subgroups, as_group, conj
from stronggens.errors import BadGroup, BadGset, BadRow, TooMany
from stronggens.gsets import same_gsets
from stronggens.marks import gset_of, marks, parts_of, row_flaw, row_of, subgroup_classes, virtual_parts
from test_primes import WRONG_GROUPS

FLIP, THREE = (2, ((1, 0),)), symmetric(3)
ACTED = [group for group in UP_TO_24 if group[1]]
_CLASSES = {}


def plain_classes(group):
    if group not in _CLASSES:
        rows = members(group)
        found = {tuple(sorted({tuple(sorted(conj(p, g) for p in part)) for g in rows})) for part in all_subgroups(group)}
        _CLASSES[group] = sorted(found, key=lambda row: (len(row[0]), row[0]))
    return _CLASSES[group]


def heads(group):
    return [row[0] for row in plain_classes(group)]


def plain_marks(group):
    table = []
    for part in heads(group):
        rows = cosets_of(group, part)
        told = {frozenset(row) for row in rows}
        table.append(tuple(sum(all(frozenset(times(p, v) for p in row) == row for v in other) for row in told)
                           for other in heads(group)))
    return tuple(table)


def plain_parts(group, gset):
    images = images_of(group, gset)
    counts = [0] * len(heads(group))
    left = set(range(len(gset[0])))
    while left:
        point = min(left)
        part = stabilizer(images, point)
        counts[[part in row for row in plain_classes(group)].index(True)] += 1
        left -= {q[point] for q in images.values()}
    return tuple(counts)


class TestClasses(unittest.TestCase):
    def test_by_each_element(self):
        for group in UP_TO_60:
            self.assertEqual(subgroup_classes(group), plain_classes(group))

    def test_edges(self):
        self.assertEqual(subgroup_classes((1, ())), [((((0,),)),)])
        self.assertEqual(len(subgroup_classes(symmetric(4))), 11)
        self.assertEqual([len(row) for row in subgroup_classes(ALTERNATING_5)], [1, 15, 10, 5, 6, 10, 6, 5, 1])
        found = subgroup_classes(FLIP)
        found.clear()
        self.assertEqual(len(subgroup_classes(FLIP)), 2)

    def test_errors(self):
        for function in (subgroup_classes, marks):
            for value, index in WRONG_GROUPS:
                expect(self, BadGroup, {"index": index}, function, value)
            for group in TOO_GREAT + GREAT:
                expect(self, TooMany, {"most": 60}, function, group)


class TestMarks(unittest.TestCase):
    def test_by_fixed_cosets(self):
        for group in UP_TO_24 + (ALTERNATING_5, UP_TO_60[-2]):
            table = marks(group)
            self.assertEqual(table, plain_marks(group))
            for i, row in enumerate(table):
                self.assertTrue(row[i] > 0 and not any(row[i + 1:]))

    def test_known(self):
        self.assertEqual(marks((3, ())), ((1,),))
        self.assertEqual(marks((4, (ring(4),))), ((4, 0, 0), (2, 2, 0), (1, 1, 1)))
        self.assertEqual([row[0] for row in marks(ALTERNATING_5)], [60, 30, 20, 15, 12, 10, 6, 5, 1])
        pairs = (10, tuple(cyc(10, (2 * k, 2 * k + 1)) for k in range(5)))
        self.assertEqual(len(marks(pairs)), 374)


class TestRows(unittest.TestCase):
    def test_by_stabilizers_and_fixed_points(self):
        for group in ACTED:
            for gset in some_gsets(group):
                images = images_of(group, gset)
                self.assertEqual(row_of(group, gset), tuple(len(fixed(images, part)) for part in heads(group)))
                self.assertEqual(parts_of(group, gset), plain_parts(group, gset))

    def test_greater_groups(self):
        for group in (ALTERNATING_5, UP_TO_60[-2]):
            for gset in some_gsets(group):
                images = images_of(group, gset)
                self.assertEqual(row_of(group, gset), tuple(len(fixed(images, part)) for part in heads(group)))
                self.assertEqual(parts_of(group, gset), plain_parts(group, gset))

    def test_coset_sets_have_one_part(self):
        for group in ACTED:
            for at, row in enumerate(plain_classes(group)):
                for part in row:
                    told = parts_of(group, plain_coset_set(group, part))
                    self.assertEqual(told, tuple(int(k == at) for k in range(len(told))))

    def test_errors(self):
        for function in (row_of, parts_of):
            for value, index in WRONG_GROUPS:
                expect(self, BadGroup, {"index": index}, function, value, None)
            for value in NO_GSETS + (((1, 2, 0),),):
                expect(self, BadGset, {}, function, FLIP, value)
                for group in TOO_GREAT + GREAT:
                    expect(self, TooMany, {"most": 60}, function, group, value)
            for value in ((), None, ((0,),), 7):
                expect(self, BadGset, {}, function, (3, ()), value)


class TestGsetOf(unittest.TestCase):
    def cases(self, group):
        """Rows of a few parts with at most 60 points."""
        sizes = [len(members(group)) // len(part) for part in heads(group)]
        many = len(sizes)
        for seed in range(1, 5):
            parts = [0] * many
            for k in range(seed):
                parts[(seed * 5 + k * 3) % many] += 1 + (seed + k) % 2
            if sum(n * size for n, size in zip(parts, sizes)) <= 60:
                yield tuple(parts)
        for k in range(many):
            yield tuple(int(at == k) for at in range(many))

    def test_point_by_point(self):
        for group in ACTED + [ALTERNATING_5]:
            for parts in self.cases(group):
                rows = [plain_coset_set(group, part) for many, part in zip(parts, heads(group)) for _ in range(many)]
                self.assertEqual(gset_of(group, parts), beside(*rows))
                self.assertEqual(parts_of(group, beside(*rows)), parts)

    def test_each_gset_is_such_a_one(self):
        for group in ACTED[::3]:
            for gset in some_gsets(group)[-2:]:
                self.assertIsNotNone(same_gsets(group, gset, gset_of(group, parts_of(group, gset))))

    def test_sixty_points(self):
        self.assertEqual(len(gset_of(FLIP, (30, 0))[0]), 60)
        self.assertEqual(gset_of(FLIP, (0, 60)), (tuple(range(60)),))
        self.assertEqual(len(gset_of(FLIP, (0, 1))[0]), 1)
        for parts in ((30, 1), (31, 0), (1, 59), (0, 60)):
            if sum(parts) + parts[0] > 60:
                expect(self, TooMany, {"most": 60}, gset_of, FLIP, parts)
        self.assertEqual(len(gset_of(ALTERNATING_5, (1,) + (0,) * 8)[0]), 60)
        expect(self, TooMany, {"most": 60}, gset_of, ALTERNATING_5, (1,) + (0,) * 7 + (1,))
        expect(self, TooMany, {"most": 60}, gset_of, ALTERNATING_5, (60,) * 9)

    def test_errors(self):
        for value, index in WRONG_GROUPS:
            expect(self, BadGroup, {"index": index}, gset_of, value, None)
        for value in (None, (), (1,), (0,), ((), ())):
            expect(self, BadGroup, {"index": None}, gset_of, (3, ()), value)
            for group in TOO_GREAT + GREAT:
                expect(self, TooMany, {"most": 60}, gset_of, group, value)
        for value in ODD_VALUES + ((0, 0), (1,), (1, 1, 1), [1, 1], {0: 1, 1: 1}, 2, "11"):
            if type(value) is not tuple or len(value) != 2 or value == (0, 0):
                expect(self, BadRow, {"index": None}, gset_of, FLIP, value)
        for value, index in (((0, 61), 1), ((61, 0), 0), ((-1, 61), 0), ((1, -1), 1), ((1, True), 1), ((True, 0), 0), ((False, 0), 0),
                             ((0, False), 1), ((False, False), 0), ((1, None), 1), ((60, 10 ** 40), 1), (("1", 2), 0), ((1, [1]), 1), (({}, 1), 0)):
            expect(self, BadRow, {"index": index}, gset_of, FLIP, value)
        # Ahead of too many points.
        expect(self, BadRow, {"index": 1}, gset_of, FLIP, (60, 61))


class TestVirtual(unittest.TestCase):
    def sum_of(self, table, parts):
        return tuple(sum(n * row[at] for n, row in zip(parts, table)) for at in range(len(table)))

    def plain_flaw(self, group, row):
        """The first congruence that does not hold, by the definition."""
        rows = members(group)
        classes = plain_classes(group)
        for index, part in enumerate(heads(group)):
            normalizer = [n for n in rows if tuple(sorted(conj(p, n) for p in part)) == part]
            cosets = {tuple(sorted(times(h, n) for h in part)) for n in normalizer}
            total = 0
            for coset in cosets:
                made = tuple(members((group[0], as_group(part)[1] + coset[:1])))
                total += row[[made in told for told in classes].index(True)]
            if total % len(cosets):
                return index, total, len(cosets)
        return None

    def check(self, group, table, row, parts=None):
        told = virtual_parts(group, row)
        flaw = row_flaw(group, row)
        self.assertEqual(flaw, self.plain_flaw(group, row))
        self.assertEqual(told is None, flaw is not None)
        if told is not None:
            self.assertEqual(self.sum_of(table, told), row)
        if parts is not None:
            self.assertEqual(told, parts)

    def test_sums_and_rows_near_them(self):
        for group in UP_TO_24[::2] + (symmetric(4),):
            table = plain_marks(group)
            many = len(table)
            for seed in range(3):
                parts = tuple((seed * 7 + k * k * 5 + 3) % 11 - 5 for k in range(many))
                row = self.sum_of(table, parts)
                self.check(group, table, row, parts)
                for at in range(many):
                    for step in (1, -1, table[at][at], 10 ** 30):
                        self.check(group, table, row[:at] + (row[at] + step,) + row[at + 1:])

    def test_all_small_rows(self):
        for group in (FLIP, (3, (ring(3),)), (4, (ring(4),)), THREE):
            table = plain_marks(group)
            for row in itertools.product(range(-2, 3), repeat=len(table)):
                self.check(group, table, row)
        self.check((3, ()), ((1,),), (-7,), (-7,))

    def test_integers_of_any_size(self):
        for group in (FLIP, THREE, symmetric(4), ALTERNATING_5):
            table = plain_marks(group)
            parts = tuple((-1) ** k * 10 ** (40 + k) + k for k in range(len(table)))
            self.check(group, table, self.sum_of(table, parts), parts)
            self.check(group, table, (0,) * len(table), (0,) * len(table))

    def test_rows_of_gsets(self):
        for group in ACTED[::3]:
            for gset in some_gsets(group):
                self.assertEqual(virtual_parts(group, row_of(group, gset)), parts_of(group, renamed(gset, 4)))
                self.assertIsNone(row_flaw(group, row_of(group, gset)))

    def test_errors(self):
        for function in (virtual_parts, row_flaw):
            for value, index in WRONG_GROUPS:
                expect(self, BadGroup, {"index": index}, function, value, None)
            for value in (None, (), (1,), (None, None), [0, 0]):
                for group in TOO_GREAT + GREAT:
                    expect(self, TooMany, {"most": 60}, function, group, value)
            for value in ODD_VALUES + ((1,), (1, 1, 1), [1, 1], {0: 1, 1: 1}, 2, "11"):
                if type(value) is not tuple or len(value) != 2:
                    expect(self, BadRow, {"index": None}, function, FLIP, value)
            for value, index in (((0, True), 1), ((False, 0), 0), ((None, None), 0), ((1, "1"), 1), ((1, [1]), 1), ((1, ()), 1), (({}, 0), 0)):
                expect(self, BadRow, {"index": index}, function, FLIP, value)


if __name__ == "__main__":
    unittest.main()
