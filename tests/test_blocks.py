import itertools
import unittest

from brute import (
    MATHIEU_11, MATHIEU_12, ODD_VALUES, SMALL, SQUARE, WIDER, all_partitions, closure, cyc, expect, members, one, ring,
    symmetric,
)
from stronggens.blocks import (
    above_stabilizer, block_group, block_systems, common, finest, is_invariant, is_primitive, joined, kernel_on_blocks,
    on_blocks, primitivity, shows_primitivity,
)
from stronggens.errors import (
    BadGroup, BadNumber, BadPartition, BadPoint, BadSet, NotInvariant, NotTransitive, TooMany,
)
from stronggens.orbits import is_transitive, pair_orbits

HEX = (6, (ring(6), cyc(6, (1, 5), (2, 4))))
PAIRS = ((0, 2), (1, 3))
WRONG_PARTITIONS = (
    None, True, 0, "", [], {}, (), ((0, 1, 2, 3), ()), ((), (0, 1, 2, 3)), ((0, 1), (2,)), ((0, 1), (2, 3, 4)),
    ((0, 1), (1, 2, 3)), ((0, 1), (3, 2)), ((1, 2), (0, 3)), ((0, 2), [1, 3]), [(0, 2), (1, 3)], ((0, 2), (True, 3)),
    ((0, 0), (1, 2, 3)), ((0, 2), None), ((0, 2), ("1", 3)), ((0, 2), (1, None)), ((0, 1, 2, 3), (0, 1, 2, 3)), (0, 1, 2, 3),
    ((0, 2), ([1], 3)), ((-1, 0), (1, 2, 3)), ({}, ()), ((0, 1, 2, 3, 3),), ((0, 2), (1, 3), ()),
)


def transitive(group):
    return len({p[0] for p in members(group)}) == group[0]


def kept(group, partition):
    return all(tuple(sorted(p[x] for x in block)) in partition for p in members(group) for block in partition)


def finer(one_partition, other):
    """Whether each block of the one lies in a block of the other."""
    return all(any(set(block) <= set(great) for great in other) for block in one_partition)


def together(partition, points):
    return any(set(points) <= set(block) for block in partition)


def systems(group):
    return [partition for partition in all_partitions(group[0]) if kept(group, partition)]


class TestPartitions(unittest.TestCase):
    def test_is_invariant(self):
        for group in SMALL:
            for partition in all_partitions(group[0]):
                self.assertIs(is_invariant(group, partition), kept(group, partition))

    def test_finest(self):
        for group in SMALL:
            invariant = systems(group)
            for size in range(group[0] + 1):
                for points in itertools.combinations(range(group[0]), size):
                    told = finest(group, points)
                    fitting = [partition for partition in invariant if together(partition, points) or size == 0]
                    self.assertIn(told, fitting)
                    self.assertTrue(all(finer(told, partition) for partition in fitting))
        self.assertEqual(finest(SQUARE, ()), ((0,), (1,), (2,), (3,)))
        self.assertEqual(finest(SQUARE, (2,)), ((0,), (1,), (2,), (3,)))

    def test_joined_and_common(self):
        for degree in range(1, 6):
            rows = all_partitions(degree)
            for a in rows[::2]:
                for b in rows:
                    coarser = [c for c in rows if finer(a, c) and finer(b, c)]
                    finer_ones = [c for c in rows if finer(c, a) and finer(c, b)]
                    self.assertIn(joined(a, b), coarser)
                    self.assertTrue(all(finer(joined(a, b), c) for c in coarser))
                    self.assertIn(common(a, b), finer_ones)
                    self.assertTrue(all(finer(c, common(a, b)) for c in finer_ones))

    def test_twelve_points(self):
        threes = tuple(tuple(range(k, k + 3)) for k in range(0, 12, 3))
        fours = tuple(tuple(range(k, 12, 3)) for k in range(3))
        self.assertEqual(joined(threes, fours), (tuple(range(12)),))
        self.assertEqual(common(threes, fours), tuple((x,) for x in range(12)))
        self.assertEqual(joined(((0,),), ((0,),)), ((0,),))

    def test_block_systems(self):
        for group in SMALL:
            if transitive(group):
                expected = sorted(systems(group), key=lambda row: (-len(row), row))
                self.assertEqual(block_systems(group), expected)
            else:
                expect(self, NotTransitive, {}, block_systems, group)
        for group in WIDER:
            if transitive(group):
                told = block_systems(group)
                self.assertEqual(told, sorted(told, key=lambda row: (-len(row), row)))
                self.assertTrue(all(kept(group, row) for row in told))
        self.assertEqual(len(block_systems(WIDER[2])), 16)
        self.assertEqual(len(block_systems((12, (ring(12),)))), 6)
        self.assertEqual(block_systems((1, ())), [((0,),)])
        self.assertEqual(block_systems(symmetric(2)), [((0,), (1,)), ((0, 1),)])

    def test_wrong_partitions(self):
        for value in WRONG_PARTITIONS:
            for function in (is_invariant, on_blocks, kernel_on_blocks):
                expect(self, BadPartition, {}, function, SQUARE, value)
            expect(self, BadPartition, {}, block_group, SQUARE, value, None)
            expect(self, BadPartition, {}, joined, PAIRS, value)
            expect(self, BadPartition, {}, common, PAIRS, value)
            if value not in (((0, 1), (2, 3, 4)), ((0, 1), (2,))):
                expect(self, BadPartition, {}, joined, value, PAIRS)
                expect(self, BadPartition, {}, common, value, value)
        expect(self, BadPartition, {}, joined, ((0,), (1,)), ((0,), (1,), (2,)))
        expect(self, BadPartition, {}, common, (tuple(range(13)),), (tuple(range(13)),))

    def test_wrong_sets(self):
        for value in (None, True, 0, "01", [0, 1], {}, (1, 0), (0, 0), (0, 4), (-1, 2), (False, 1), (0, None), (0, "1"),
                      ((0,), 1), (0, [1]), (0, {})):
            expect(self, BadSet, {}, finest, SQUARE, value)


class TestPrimitivity(unittest.TestCase):
    def test_against_all_partitions(self):
        for group in SMALL:
            primitive = transitive(group) and group[0] > 1 and len(systems(group)) == 2
            self.assertIs(is_primitive(group), primitive)
            self.check(group, primitive)

    def check(self, group, primitive):
        told = primitivity(group)
        self.assertIs(shows_primitivity(group, told), True)
        self.assertIs(told[0] == "walks", primitive)
        self.assertTrue(self.is_certificate(group, told))

    def is_certificate(self, group, told):
        """By the words of the document."""
        degree = group[0]
        if told == ("point",):
            return degree == 1
        kind, value = told
        if kind == "orbit":
            return 0 < len(value) < degree and all(sorted(p[x] for x in value) == list(value) for p in members(group))
        if kind == "blocks":
            return transitive(group) and value in all_partitions(degree) and kept(group, value) and 1 < len(value) < degree
        rows = [row for row in pair_orbits(group) if row[0][0] != row[0][1]]
        return (kind == "walks" and transitive(group) and degree > 1 and len(value) == len(rows) and all(
            len(walk) <= 60 and walk[0] == 0 and set(walk) == set(range(degree))
            and all((a, b) in row or (b, a) in row for a, b in zip(walk, walk[1:]))
            for walk, row in zip(value, rows)))

    def test_known_groups(self):
        for group in (MATHIEU_11, MATHIEU_12, symmetric(12), (11, (ring(11),)), symmetric(2)):
            self.assertIs(is_primitive(group), True)
            self.assertIs(shows_primitivity(group, primitivity(group)), True)
            self.assertEqual(primitivity(group)[0], "walks")
        for group in ((12, (ring(12),)), (12, ()), (1, ()), (2, ())):
            self.assertIs(is_primitive(group), False)
            self.assertIs(shows_primitivity(group, primitivity(group)), True)

    def test_point(self):
        self.assertEqual([shows_primitivity((1, ()), ("point",)), shows_primitivity((2, ()), ("point",)),
                          shows_primitivity((1, ()), ("walks", ())), shows_primitivity((1, ()), ("orbit", (0,))),
                          shows_primitivity((1, ()), ("point", ())), shows_primitivity((1, ()), ("blocks", ((0,),)))],
                         [True, False, False, False, False, False])

    def test_orbits(self):
        parts = (5, (cyc(5, (0, 1)), cyc(5, (2, 3))))
        for size in range(6):
            for points in itertools.combinations(range(5), size):
                good = 0 < size < 5 and (0 in points) == (1 in points) and (2 in points) == (3 in points)
                self.assertIs(shows_primitivity(parts, ("orbit", points)), good)
        for points in ((1, 0), (0, 1, 1), [0, 1], (False, True), (False, 1), None, 4, {}, ("4",), (4, 5), (-1,), ([],)):
            self.assertIs(shows_primitivity(parts, ("orbit", points)), False)
        self.assertIs(shows_primitivity(symmetric(3), ("orbit", (0, 1))), False)

    def test_blocks(self):
        for group in (SQUARE, HEX, symmetric(4), (4, ()), SMALL[16]):
            for partition in all_partitions(group[0]):
                good = transitive(group) and kept(group, partition) and 1 < len(partition) < group[0]
                self.assertIs(shows_primitivity(group, ("blocks", partition)), good)
        for value in WRONG_PARTITIONS:
            self.assertIs(shows_primitivity(SQUARE, ("blocks", value)), False)

    def test_walks(self):
        group = (5, (ring(5),))
        # Its pair orbits of unlike points go 1, 2, 3 and 4 points ahead.
        by_one, by_two = (0, 1, 2, 3, 4), (0, 2, 4, 1, 3)
        good = (by_one, by_two, by_two, by_one)
        self.assertIs(shows_primitivity(group, ("walks", good)), True)
        self.assertIs(shows_primitivity(group, ("walks", ((0, 4, 3, 2, 1), by_two, (0, 3, 1, 4, 2), by_one))), True)
        self.assertIs(shows_primitivity(group, ("walks", ((0, 1) * 28 + by_one[:4], *good[1:]))), False)
        self.assertIs(shows_primitivity(group, ("walks", ((0, 1) * 28 + (2, 3, 4, 3), *good[1:]))), True)
        self.assertIs(shows_primitivity(group, ("walks", ((0, 1) * 28 + (0, 4, 3, 2), *good[1:]))), True)
        self.assertIs(shows_primitivity(group, ("walks", ((0, 1) * 28 + (0, 4, 3, 2, 1), *good[1:]))), False)
        for walk in ((1, 2, 3, 4, 0), (0, 1, 2, 3), (0, 2, 4, 1, 3), (0, 1, 2, 3, 5), (), [0, 1, 2, 3, 4], None, 0, "0",
                     (False, 1, 2, 3, 4), (0, True, 2, 3, 4), (0, 1, 2, 3, 4, 4), (0, 1, 2, 3, 4, None), {},
                     (0, 1, 2, 3, [4])):
            self.assertIs(shows_primitivity(group, ("walks", (walk, *good[1:]))), False, walk)
        for value in (good[:3], good + (by_one,), list(good), None, (), (by_two, by_one, by_one, by_two), {}, 4):
            self.assertIs(shows_primitivity(group, ("walks", value)), False)
        self.assertIs(shows_primitivity((5, ()), ("walks", (by_one,) * 20)), False)

    def test_imprimitive_groups_have_no_walks(self):
        rows = [row for row in pair_orbits(SQUARE) if row[0][0] != row[0][1]]
        self.assertEqual(rows[1][0], (0, 2))
        for walk in itertools.product(range(4), repeat=5):
            self.assertIs(shows_primitivity(SQUARE, ("walks", ((0, 1, 2, 3), walk))), False)

    def test_other_values(self):
        for value in ODD_VALUES + (("point", None, None), ("walk", ()), ("orbit",), (["orbit"], (0,)), ["point"], ("",),
                                   ({}, {}), (("point",),), "point", ("orbit", (0,), ()), (None, (0, 1))):
            self.assertIs(shows_primitivity(SQUARE, value), False, value)
            self.assertIs(shows_primitivity((4, ()), value), False, value)


class TestGroupsOfBlocks(unittest.TestCase):
    def test_against_all_members(self):
        for group in SMALL + WIDER[1:3]:
            for partition in systems(group) if group[0] < 7 else block_systems(group):
                self.check(group, partition)

    def check(self, group, partition):
        rows = members(group)
        number_of = {x: number for number, block in enumerate(partition) for x in block}
        for number, block in enumerate(partition):
            part = block_group(group, partition, number)
            self.assertTrue(part[0] == group[0] and len(part[1]) <= 12)
            self.assertEqual(members(part), [p for p in rows if {p[x] for x in block} == set(block)])
        images = tuple(tuple(number_of[p[block[0]]] for block in partition) for p in group[1])
        self.assertEqual(on_blocks(group, partition), (len(partition), images))
        part = kernel_on_blocks(group, partition)
        self.assertTrue(part[0] == group[0] and len(part[1]) <= 12)
        self.assertEqual(members(part), [p for p in rows if all(number_of[x] == number_of[p[x]] for x in range(group[0]))])

    def test_great_groups(self):
        threes = tuple(tuple(range(k, k + 3)) for k in range(0, 12, 3))
        wreath = (12, (cyc(12, (0, 1, 2)), cyc(12, (0, 1)), cyc(12, (0, 3, 6, 9), (1, 4, 7, 10), (2, 5, 8, 11)),
                       cyc(12, (0, 3), (1, 4), (2, 5))))
        kernel = kernel_on_blocks(wreath, threes)
        self.assertEqual(len(members(kernel)), 6 ** 4)
        self.assertEqual(len(members(on_blocks(wreath, threes))), 24)
        self.assertEqual(len(members(kernel_on_blocks(block_group(wreath, threes, 2), threes))), 6 ** 4)
        self.assertEqual(on_blocks(symmetric(12), (tuple(range(12)),)), (1, ((0,), (0,))))
        self.assertEqual(len(kernel_on_blocks(symmetric(12), (tuple(range(12)),))[1]) <= 12, True)
        self.assertEqual(members(kernel_on_blocks(symmetric(12), tuple((x,) for x in range(12)))), [one(12)])

    def test_above_stabilizer(self):
        for group in SMALL:
            if not transitive(group) or group[0] > 5:
                continue
            rows = members(group)
            for point in range(group[0]):
                fixed = {p for p in rows if p[point] == point}
                found = {tuple(sorted(fixed))}
                # Each such subgroup is made by the stabilizer and some more elements.
                fresh = list(found)
                while fresh:
                    fresh = [part for part in {tuple(closure(group[0], [*part, p])) for part in fresh for p in rows}
                             if part not in found]
                    found.update(fresh)
                self.assertEqual(above_stabilizer(group, point), sorted(found, key=lambda part: (len(part), part)))
        self.assertEqual(above_stabilizer((1, ()), 0), [((0,),)])
        self.assertEqual([len(part) for part in above_stabilizer((12, (ring(12),)), 7)], [1, 2, 3, 4, 6, 12])

    def test_limits(self):
        expect(self, TooMany, {"most": 2000}, above_stabilizer, MATHIEU_11, 0)
        expect(self, TooMany, {"most": 2000}, above_stabilizer, symmetric(7), 6)
        self.assertEqual([len(part) for part in above_stabilizer(symmetric(6), 5)], [120, 720])


class TestErrors(unittest.TestCase):
    def test_not_invariant(self):
        for function in (on_blocks, kernel_on_blocks):
            expect(self, NotInvariant, {}, function, SQUARE, ((0, 1), (2, 3)))
        for number in (0, 1, 2, None, True):
            expect(self, NotInvariant, {}, block_group, SQUARE, ((0, 1), (2, 3)), number)

    def test_numbers(self):
        for number in (-1, 2, None, True, False, "0", [0], (0,), {}, 10 ** 30):
            expect(self, BadNumber, {}, block_group, SQUARE, PAIRS, number)

    def test_not_transitive(self):
        parts = (4, ((1, 0, 2, 3),))
        expect(self, NotTransitive, {}, above_stabilizer, parts, 0)
        for value in (None, True, 4, -1, "0", (0,), [0], {}):
            expect(self, BadPoint, {}, above_stabilizer, SQUARE, value)
            expect(self, BadPoint, {}, above_stabilizer, parts, value)
        many = (8, (tuple(symmetric(7)[1][0]) + (7,), tuple(symmetric(7)[1][1]) + (7,)))
        expect(self, NotTransitive, {}, above_stabilizer, many, 0)
        expect(self, BadPoint, {}, above_stabilizer, symmetric(12), 12)

    def test_the_group_comes_first(self):
        for value in ODD_VALUES:
            for function in (block_systems, is_primitive, primitivity):
                expect(self, BadGroup, {"index": None}, function, value)
            for function in (is_invariant, finest, shows_primitivity, on_blocks, kernel_on_blocks, above_stabilizer):
                expect(self, BadGroup, {"index": None}, function, value, None)
            expect(self, BadGroup, {"index": None}, block_group, value, None, None)
        expect(self, BadGroup, {"index": 1}, is_primitive, (2, ((1, 0), None)))
        expect(self, BadGroup, {"index": 0}, shows_primitivity, (2, ((1, 1),)), ("point",))
        self.assertIs(is_transitive(SQUARE), True)


if __name__ == "__main__":
    unittest.main()
